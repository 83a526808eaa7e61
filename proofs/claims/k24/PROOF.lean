import PyProof.Rows.All
import Wide.All
import OpenK.AllK
import Wide.FinOn
import KE.KStateDown
import KE.KBits
import Lean
import HandS.ForMost
import HandS.More
import HandS.Exc
import HandS.WordsExc
import HandS.Defaults
import HandS.IsInst
import HandS.Wide
import HandS.WideBits
import HandS.Evl
import HandS.Head0
import HandS.Head1
import HandS.Head2
import HandS.HeadEnd
import HandS.HeadHook1
import HandS.HeadHook2
import KE.DataCmp
import HandS.NoneIn
import HandS.HeadHook3
import HandS.HeadHook4
import HandS.Iter
import PySem.Challenge.RW_oncenear_k24_exact_worths
set_option Elab.async false
set_option linter.all false
set_option maxRecDepth 100000
set_option maxHeartbeats 2000000
namespace Onc
open PySem PySem.Spec PyProof.Rows L2 Evl
/-! ### defs and calls -/
section
variable {P : Program} {w : World} {K : PySem.W.Frag} {mg : Str → Option Value} {base : Heap} {x qual : Str} {params : Arguments} {body : List Stmt} {scope : Scope} {dvs : List V} {kws : List (Str × V)} {f : Addr} {fd : FuncData}
theorem ok0 {N ps : List Str} {k : Nat} {sp : Sp} (F : FunD K x qual params body scope dvs kws f fd) (S : FnScope N ps scope) (len : ∀ vs H Q E, sp vs H Q E → vs.length = ps.length)
    (hbody : ∀ (cdv : Value) (A : Around) (outer : List Env) (s : Shared) (H : Hp) (vs : List V) (Q : VK) (E : XK), Room k (A.deeper (envOfC qual scope s.heap.objs.size f cdv)) → sp vs H Q E →
      ∃ t, PSs (cxOf CX0 P w K mg base N qual scope f cdv A outer s H E).nox body t ∧ t { nx := fun _ H' => Q .non H', rt := Q } (start N vs) H) : FnOk P w K mg base CX0 (k + 1) f fd ps sp :=
  F.ok S len fun cdv A outer s H vs Q E hr h => by
    obtain ⟨t, h1, h2⟩ := hbody cdv A outer s H vs Q E hr h
    exact ⟨t, h1.nox, h2⟩
end
structure Cal (P : Program) (w : World) (K : PySem.W.Frag) (mg : Str → Option Value) (base : Heap) (CX : CXT) (k : Nat) (x : Str) (ps : List Str) (sp : Sp) (f : Addr) (fd : FuncData) : Prop where
  ok : FnOk P w K mg base CX k f fd ps sp
  m : mg x = some (.ref f)
  kp : PySem.W.keepIn K (.ref f) = true
  b : Binds K fd ps []
section
variable {X : Cx} {CX : CXT} {k n : Nat} {f : Addr} {fd : FuncData} {ps ks : List Str} {sp : Sp} {E : XK} {x : Str} {p pos : Pos} {kws : List Keyword} {tk : TA} {g : List Value → List Value → List Value} {gV : List V → List V → List V}
/-- f(k = v, ..), no positional ones -/
theorem pe_callN0 (F : FnOk X.prog X.w X.K X.mg X.base CX k f fd ps sp) (hr : Room k X.A) (hg : Gl X x) (hm : X.mg x = some (.ref f)) (hk : PySem.W.keepIn X.K (.ref f) = true) (hb : KBn X.K fd ps 0 ks g gV) (hx : Passes CX X E)
    (hkw : PK X kws tk) (hall : (backToKw pos (keywordEach kws X.env)).all (·.1.isSome) = true := by rfl) (hks : (backToKw pos (keywordEach kws X.env)).filterMap (·.1) = ks := by rfl)
    (hdb : (x == ("__debug__" : Str)) = false := by decide)
    (hpl : ((backTo pos (starEach [] X.env)).any (·.1) || (backToKw pos (keywordEach kws X.env)).any (·.1.isNone)) = false := by rfl) :
    PE X (.Call (.Name x p) [] kws pos) (tCallN 0 ks.length sp gV E tNil tk) := by
  refine ⟨fun pins s σ H Q I h => ?_⟩
  refine wpAny_Call_Name_kw (ld_glob I hg hm ?_ hdb)
  refine PySem.W.callWith_KW0 (h₀ := X.base) I.ok.mod.kin hk hall ?_ hpl
  refine thn (hkw.run pos pins s σ H _ I h) fun ws s2 ⟨zs, H2, I2, rz, l1, l2, q2⟩ => ⟨I2.kIn, ?_⟩
  rw [hks]
  exact run_fnN (us := []) (vs := []) F hr hb hx I2 .nil rz l1 l2 q2
end
section
variable {K : PySem.W.Frag} {x qual : Str} {params : Arguments} {body : List Stmt} {scope : Scope} {dvs : List V} {kws : List (Str × V)} {f : Addr} {fd : FuncData} {ps : List Str}
/-- keywords alone, a def without defaults -/
theorem kb_plain (F : FunD K x qual params body scope [] kws f fd) (ks : List Str) (g : {α : Type} → List α → List α)
    (hrel : ∀ {zs : List V} {ws : List Value}, Vals zs ws → Vals (g zs) (g ws))
    (h : ∀ (kV doc pm : Value) (an : Option Addr) (cdv ct : Value) (ws : List Value), ws.length = ks.length → bindArgs (PySem.W.fnOf x qual params body scope .none kV doc pm an cdv ct) ⟨[], ks.zip ws⟩ = pure (ps.zip (g ws))) : KBn K fd ps 0 ks (fun _ ws => g ws) (fun _ zs => g zs) := by
  obtain ⟨oc, od, dV, kV, doc, pm, an, cdv, ct, osl, rfl, lk, hcd, hD, hK⟩ := F.ex
  rcases hD with ⟨_, rfl⟩ | ⟨e, _⟩
  · refine ⟨fun s us ws X l1 l2 => ?_, fun _ r2 => hrel r2⟩
    have e0 : us = [] := List.length_eq_zero_iff.mp l1
    subst e0
    exact .of_eq (h kV doc pm an cdv ct ws l2)
  · exact absurd rfl e
/-- keywords alone, a def with defaults -/
theorem kb_dfl (F : FunD K x qual params body scope dvs kws f fd) (hd : dvs ≠ []) (ks : List Str) (g : {α : Type} → List α → List α → List α)
    (hrel : ∀ {ds zs : List V} {its ws : List Value}, Vals ds its → Vals zs ws → Vals (g ds zs) (g its ws))
    (h : ∀ (T : Addr) (kV doc pm : Value) (an : Option Addr) (cdv ct : Value) (its ws : List Value), its.length = dvs.length → ws.length = ks.length →
      ∃ k, bindArgs (PySem.W.fnOf x qual params body scope (.ref T) kV doc pm an cdv ct) ⟨[], ks.zip ws⟩ = seqItems? (.ref T) >>= k ∧ k (some its.toArray) = pure (ps.zip (g its ws))) :
    ∃ its : List Value, KBn K fd ps 0 ks (fun _ ws => g its ws) (fun _ zs => g dvs zs) := by
  obtain ⟨oc, od, dV, kV, doc, pm, an, cdv, ct, osl, rfl, lk, hcd, hD, hK⟩ := F.ex
  rcases hD with ⟨e, _⟩ | ⟨_, T, o, its, m, rfl, lT, oT, rT⟩
  · exact absurd e hd
  · refine ⟨its, fun s us ws X l1 l2 => ?_, fun _ r2 => hrel rT r2⟩
    have e0 : us = [] := List.length_eq_zero_iff.mp l1
    subst e0
    obtain ⟨k, e1, e2⟩ := h T kV doc pm an cdv ct its ws rT.length.symm l2
    refine BindsTo.of_looks fun M => ?_
    rw [e1]
    exact looks_items X lT oT (.of_pure e2)
end
/-! ### kinds -/
section
variable {K : PySem.W.Frag} {H H' : Hp}
theorem tyX_ex {v : V} {t : Value} (e : Ex H H') (h : TyX K H v t) : TyX K H' v t := by
  cases h with
  | base b =>
    cases b with
    | non => exact .base .non
    | bl x => exact .base (.bl x)
    | int x => exact .base (.int x)
    | str x => exact .base (.str x)
    | flt x => exact .base (.flt x)
    | lst q => exact .base (.lst (e _ _ q))
    | frz q => exact .base (.frz (e _ _ q))
    | tup q => exact .base (.tup (e _ _ q))
    | dK q => exact .base (.dK (e _ _ q))
    | dT q => exact .base (.dT (e _ _ q))
    | ins q a b c d f => exact .base (.ins (e _ _ q) a b c d f)
  | byt b => exact .byt b
  | set q => exact .set (e _ _ q)
  | kList q c => exact .kList q c
  | kTuple q c => exact .kTuple q c
  | kDict q c => exact .kDict q c
  | fTuple q => exact .fTuple (e _ _ q)
  | fDict q => exact .fDict (e _ _ q)
theorem sqT_ty {a : Addr} {xs : List V} (h : SqT K H a xs) : TyX K H (.ref a) (.type "tuple") := by
  rcases h with (h | ⟨o, h⟩) | ⟨o, its, n, h1, h2, _⟩
  · exact .base (.tup h)
  · exact .fTuple h
  · exact .kTuple h1 h2
theorem sqL_ty {a : Addr} {xs : List V} (h : SqL K H a xs) : TyX K H (.ref a) (.type "list") := by
  rcases h with (h | ⟨o, h⟩) | ⟨o, its, n, h1, h2, _⟩
  · exact .base (.lst h)
  · exact .base (.frz h)
  · exact .kList h1 h2
/-- whether v is a whole number, by its kind -/
inductive WholeIs (K : PySem.W.Frag) (H : Hp) : V → Bool → Prop
  | int (i : Int) : WholeIs K H (.int i) true
  | bl (x : Bool) : WholeIs K H (.bl x) false
  | no {v : V} {t : Value} {b2 : Bool} (h : TyX K H v t) (k1 : PySem.W.kitOne K t (.type "int") = some false) (k2 : PySem.W.kitOne K t (.type "bool") = some b2) : WholeIs K H v false
theorem ty_int (i : Int) : TyX K H (.int i) (.type "int") := .base (.int i)
theorem ty_bl (x : Bool) : TyX K H (.bl x) (.type "bool") := .base (.bl x)
theorem kit_ii : PySem.W.kitOne K (.type "int") (.type "int") = some true := kit_ty (by decide +kernel : kitB "int" "int" = some true)
theorem kit_ib : PySem.W.kitOne K (.type "int") (.type "bool") = some false := kit_ty (by decide +kernel : kitB "int" "bool" = some false)
theorem kit_bi : PySem.W.kitOne K (.type "bool") (.type "int") = some true := kit_ty (by decide +kernel : kitB "bool" "int" = some true)
theorem kit_bb : PySem.W.kitOne K (.type "bool") (.type "bool") = some true := kit_ty (by decide +kernel : kitB "bool" "bool" = some true)
theorem WholeIs.kinds {v : V} {b : Bool} (h : WholeIs K H v b) : ∃ t b1 b2, TyX K H v t ∧ PySem.W.kitOne K t (.type "int") = some b1 ∧ PySem.W.kitOne K t (.type "bool") = some b2 ∧ b = (b1 && !b2) := by
  cases h with
  | int i => exact ⟨_, _, _, ty_int i, kit_ii, kit_ib, rfl⟩
  | bl x => exact ⟨_, _, _, ty_bl x, kit_bi, kit_bb, rfl⟩
  | no h k1 k2 => exact ⟨_, _, _, h, k1, k2, rfl⟩
def isNumB (m e : Int) : Bool := decide (m % 2 = 1) || (decide (m = 0) && decide (e = 0))
inductive NumIs (K : PySem.W.Frag) (H : Hp) : V → Bool → Prop
  | no {v : V} {t : Value} (h : TyX K H v t) (k : PySem.W.kitOne K t (.type "tuple") = some false) : NumIs K H v false
  | len {a : Addr} {xs : List V} (h : SqT K H a xs) (l : xs.length ≠ 2) : NumIs K H (.ref a) false
  | fst {a : Addr} {x y : V} {b : Bool} (h : SqT K H a [x, y]) (p : WholeIs K H x false) (q : WholeIs K H y b) : NumIs K H (.ref a) false
  | snd {a : Addr} {x y : V} (h : SqT K H a [x, y]) (p : WholeIs K H x true) (q : WholeIs K H y false) : NumIs K H (.ref a) false
  | num {a : Addr} {m e : Int} (h : SqT K H a [.int m, .int e]) : NumIs K H (.ref a) (isNumB m e)
theorem whole_ex {v : V} {b : Bool} (e : Ex H H') (h : WholeIs K H v b) : WholeIs K H' v b := by
  cases h with
  | int i => exact .int i
  | bl x => exact .bl x
  | no h k1 k2 => exact .no (tyX_ex e h) k1 k2
theorem whole_int (i : Int) : WholeIs K H (.int i) true := .int i
def isWholeD : PyData → Bool
  | .int _ => true
  | _ => false
theorem whole_dp {v : V} {d : PyData} (h : Dp K H v d) : WholeIs K H v (isWholeD d) := by
  cases h with
  | non => exact .no (.base .non) (kit_ty (by decide +kernel : kitB "NoneType" "int" = some false)) (kit_ty (by decide +kernel : kitB "NoneType" "bool" = some false))
  | bl b => exact .bl b
  | int i => exact .int i
  | str x => exact .no (.base (.str x)) (kit_ty (by decide +kernel : kitB "str" "int" = some false)) (kit_ty (by decide +kernel : kitB "str" "bool" = some false))
  | lst q _ => exact .no (sqL_ty q) (kit_ty (by decide +kernel : kitB "list" "int" = some false)) (kit_ty (by decide +kernel : kitB "list" "bool" = some false))
  | tup q _ => exact .no (sqT_ty q) (kit_ty (by decide +kernel : kitB "tuple" "int" = some false)) (kit_ty (by decide +kernel : kitB "tuple" "bool" = some false))
theorem num_dp {v : V} {d : PyData} (h : Dp K H v d) : ∃ b, NumIs K H v b := by
  cases h with
  | non => exact ⟨_, .no (.base .non) (kit_ty (by decide +kernel : kitB "NoneType" "tuple" = some false))⟩
  | bl b => exact ⟨_, .no (.base (.bl b)) (kit_ty (by decide +kernel : kitB "bool" "tuple" = some false))⟩
  | int i => exact ⟨_, .no (.base (.int i)) (kit_ty (by decide +kernel : kitB "int" "tuple" = some false))⟩
  | str x => exact ⟨_, .no (.base (.str x)) (kit_ty (by decide +kernel : kitB "str" "tuple" = some false))⟩
  | lst q _ => exact ⟨_, .no (sqL_ty q) (kit_ty (by decide +kernel : kitB "list" "tuple" = some false))⟩
  | @tup a xs ds q r =>
    cases r with
    | nil => exact ⟨_, .len q (by decide)⟩
    | @cons x xs' d1 ds' r1 r2 =>
      cases r2 with
      | nil => exact ⟨_, .len q (by simp)⟩
      | @cons y ys d2 ds'' r3 r4 =>
        cases r4 with
        | cons r5 r6 => exact ⟨_, .len q (by simp)⟩
        | nil =>
          have w1 := whole_dp r1
          have w2 := whole_dp r3
          cases r1 with
          | int m =>
            cases r3 with
            | int e => exact ⟨_, .num q⟩
            | _ => exact ⟨_, .snd q w1 w2⟩
          | _ => exact ⟨_, .fst q w1 w2⟩
theorem num_ex {v : V} {b : Bool} (e : Ex H H') (h : NumIs K H v b) : NumIs K H' v b := by
  cases h with
  | no h k => exact .no (tyX_ex e h) k
  | len h l => exact .len (ex_t e h) l
  | fst h p q => exact .fst (ex_t e h) (whole_ex e p) (whole_ex e q)
  | snd h p q => exact .snd (ex_t e h) (whole_ex e p) (whole_ex e q)
  | num h => exact .num (ex_t e h)
mutual
theorem dp_ex (e : Ex H H') : ∀ (d : PyData) (v : V), Dp K H v d → Dp K H' v d
  | .none, _, h => by cases h; exact .non
  | .bool b, _, h => by cases h; exact .bl b
  | .int i, _, h => by cases h; exact .int i
  | .str x, _, h => by cases h; exact .str x
  | .list ds, _, h => by
    cases h with
    | lst hs ha => exact .lst (ex_l e hs) (dpAll_ex e ds _ ha)
  | .tuple ds, _, h => by
    cases h with
    | tup hs ha => exact .tup (ex_t e hs) (dpAll_ex e ds _ ha)
  | .dict _, _, h => by cases h
theorem dpAll_ex (e : Ex H H') : ∀ (ds : List PyData) (vs : List V), DpAll K H vs ds → DpAll K H' vs ds
  | [], _, h => by cases h; exact .nil
  | d :: ds, _, h => by
    cases h with
    | cons h1 h2 => exact .cons (dp_ex e d _ h1) (dpAll_ex e ds _ h2)
end
theorem dpAll_mem {vs : List V} {ds : List PyData} (h : DpAll K H vs ds) : ∀ {i : Nat} {v : V}, vs[i]? = some v → ∃ d, Dp K H v d := by
  intro i v hv
  induction vs generalizing ds i with
  | nil => simp at hv
  | cons x xs ih =>
    cases h with
    | cons h1 h2 =>
      cases i with
      | zero =>
        have e : x = v := Option.some.inj hv
        subst e
        exact ⟨_, h1⟩
      | succ j => exact ih h2 hv
theorem dpAll_append : ∀ {xs ys : List V} {ds es : List PyData}, DpAll K H xs ds → DpAll K H ys es → DpAll K H (xs ++ ys) (ds ++ es)
  | [], _, [], _, _, h => h
  | _ :: _, _, _ :: _, _, .cons h1 h2, h => .cons h1 (dpAll_append h2 h)
/-! ### data by evaluation -/
def EvD (K : PySem.W.Frag) (te : TE) (σ : L2.St) (H : Hp) : Prop := ∀ H1, Ex H H1 → ∀ Q : VK, (∀ v H2, Ex H1 H2 → (∃ d, Dp K H2 v d) → Q v H2) → te σ H1 Q
def EvDs (K : PySem.W.Frag) (ta : TA) (σ : L2.St) (H : Hp) (n : Nat) : Prop := ∀ H1, Ex H H1 → ∀ Q : List V → Hp → Prop, (∀ vs H2, Ex H1 H2 → (∃ ds, DpAll K H2 vs ds) → vs.length = n → Q vs H2) → ta σ H1 Q
variable {σ : L2.St} {ta tb te : TE}
theorem ed_of {v : V} {d : PyData} (h : Ev te σ H v) (hd : Dp K H v d) : EvD K te σ H := fun H1 e Q q => h H1 e Q fun H2 e2 => q v H2 e2 ⟨d, dp_ex (e.trans e2) d v hd⟩
theorem ed_int {i : Int} (h : Ev te σ H (.int i)) : EvD K te σ H := ed_of h (.int i)
theorem ed_c {v : V} {d : PyData} (hd : Dp K H v d) : EvD K (tC v) σ H := ed_of ev_c hd
theorem eds_nil : EvDs K tNil σ H 0 := fun H1 _ _ q => q [] H1 (Ex.refl H1) ⟨[], .nil⟩ rfl
theorem eds_cons {tr : TA} {n : Nat} (h : EvD K ta σ H) (hr : EvDs K tr σ H n) : EvDs K (tCons ta tr) σ H (n + 1) := fun H1 e Q q =>
  h H1 e _ fun v H2 e2 ⟨d, hd⟩ => hr H2 (e.trans e2) _ fun vs H3 e3 ⟨ds, hds⟩ hl => q (v :: vs) H3 (e2.trans e3) ⟨d :: ds, .cons (dp_ex e3 d v hd) hds⟩ (congrArg Nat.succ hl)
theorem ed_tup {tr : TA} {n : Nat} (h : EvDs K tr σ H n) (hn : n ≤ 100000 := by decide) : EvD K (tTup tr) σ H := fun H1 e Q q =>
  h H1 e _ fun vs H2 e2 ⟨ds, hds⟩ hl => ⟨sz_of (by rw [hl]; exact hn), fun p hp => q (.ref p) _ (e2.trans (Ex.new hp)) ⟨.tuple ds, .tup (st_of upd_same) (dpAll_ex (Ex.new hp) ds vs hds)⟩⟩
theorem ed_lst {tr : TA} {n : Nat} (h : EvDs K tr σ H n) (hn : n ≤ 100000 := by decide) : EvD K (tLst tr) σ H := fun H1 e Q q =>
  h H1 e _ fun vs H2 e2 ⟨ds, hds⟩ hl => ⟨sz_of (by rw [hl]; exact hn), fun p hp => q (.ref p) _ (e2.trans (Ex.new hp)) ⟨.list ds, .lst (sq_of upd_same) (dpAll_ex (Ex.new hp) ds vs hds)⟩⟩
/-- a new list of data -/
def EvLD (K : PySem.W.Frag) (te : TE) (σ : L2.St) (H : Hp) (n : Nat) : Prop := ∀ H1, Ex H H1 → ∀ Q : VK, (∀ p vs H2, Ex H1 H2 → H1 p = none → H2 p = some (.lst vs) → (∃ ds, DpAll K H2 vs ds) → vs.length = n → Q (.ref p) H2) → te σ H1 Q
theorem eld_lst {tr : TA} {n : Nat} (h : EvDs K tr σ H n) (hn : n ≤ 100000 := by decide) : EvLD K (tLst tr) σ H n := fun H1 e Q q =>
  h H1 e _ fun vs H2 e2 ⟨ds, hds⟩ hl => ⟨sz_of (by rw [hl]; exact hn), fun p hp => q p vs _ (e2.trans (Ex.new hp)) (fresh_back e2 hp) upd_same ⟨ds, dpAll_ex (Ex.new hp) ds vs hds⟩ hl⟩
/-- at slot i stands a list of n data -/
def LdAt (K : PySem.W.Frag) (H : Hp) (v : V) (n : Nat) : Prop := ∃ p vs, v = .ref p ∧ H p = some (.lst vs) ∧ vs.length = n ∧ ∃ ds, DpAll K H vs ds
theorem ldAt_ex {v : V} {n : Nat} (e : Ex H H') (h : LdAt K H v n) : LdAt K H' v n := by
  obtain ⟨p, vs, e1, h1, h2, ds, h3⟩ := h
  exact ⟨p, vs, e1, e _ _ h1, h2, ds, dpAll_ex e ds vs h3⟩
theorem eld_cat {v : V} {i n m : Nat} (hv : σ[i]? = some (some v)) (hl : LdAt K H v n) (h : EvLD K tb σ H m) (hn : n + m ≤ 100000 := by decide) : EvLD K (tOp rCat (tVar i) tb) σ H (n + m) := fun H1 e Q q => by
  obtain ⟨a, us, rfl, h1, h2, ds, h3⟩ := hl
  refine ⟨.ref a, hv, h H1 e _ fun p vs H2 e2 hp hvs ⟨es, hes⟩ hlen => ?_⟩
  refine ⟨a, p, us, vs, rfl, rfl, (e.trans e2) _ _ h1, hvs, sz_of (by rw [h2, hlen]; exact hn), fun r hr => ?_⟩
  exact q r (us ++ vs) _ (e2.trans (Ex.new hr)) (fresh_back e2 hr) upd_same ⟨ds ++ es, dpAll_append (dpAll_ex ((e.trans e2).trans (Ex.new hr)) ds us h3) (dpAll_ex (Ex.new hr) es vs hes)⟩ (by rw [List.length_append, h2, hlen])
end
/-! ### isinstance by kinds -/
section
variable {K : PySem.W.Frag} {H : Hp} {v : V} {t : Value} {b : Bool} {Q : VK}
theorem isi_at {T : String} (h : TyX K H v t) (k : PySem.W.kitOne K t (.type T) = some b) (q : Q (.bl b) H) : rIsi K [v, .ty T] H Q := ⟨v, .ty T, t, .type T, b, rfl, .ty T, h, k, q⟩
theorem isi_tup {a : Addr} {xs : List V} (h : SqT K H a xs) (q : Q (.bl true) H) : rIsi K [.ref a, .ty "tuple"] H Q := isi_at (sqT_ty h) (kit_ty (by decide +kernel : kitB "tuple" "tuple" = some true)) q
theorem rd_isi {σ : L2.St} {i : Nat} {T : String} (hv : σ[i]? = some (some v)) (h : TyX K H v t) (k : PySem.W.kitOne K t (.type T) = some b) (q : Q (.bl b) H) : tCB (rIsi K) (tCons (tVar i) (tCons (tC (.ty T)) tNil)) σ H Q := ⟨v, hv, isi_at h k q⟩
theorem rd_tup {σ : L2.St} {i : Nat} {a : Addr} {xs : List V} (hv : σ[i]? = some (some (.ref a))) (h : SqT K H a xs) (q : Q (.bl true) H) : tCB (rIsi K) (tCons (tVar i) (tCons (tC (.ty "tuple")) tNil)) σ H Q := ⟨_, hv, isi_tup h q⟩
theorem rd_isiE {σ : L2.St} {ta : TE} {T : String} (hv : ∀ Q' : VK, Q' v H → ta σ H Q') (h : TyX K H v t) (k : PySem.W.kitOne K t (.type T) = some b) (q : Q (.bl b) H) : tCB (rIsi K) (tCons ta (tCons (tC (.ty T)) tNil)) σ H Q := hv _ (isi_at h k q)
theorem rd_tupC {σ : L2.St} {ta : TE} {W : V → Hp → Prop} (hv : ∀ Q' : VK, (∀ v H', W v H' → Q' v H') → ta σ H Q') (hW : ∀ v H', W v H' → ∃ a xs, v = .ref a ∧ SqT K H' a xs) (q : ∀ v H', W v H' → Q (.bl true) H') : tCB (rIsi K) (tCons ta (tCons (tC (.ty "tuple")) tNil)) σ H Q := hv _ fun v H' hw => by
  obtain ⟨a, xs, rfl, h⟩ := hW v H' hw
  exact isi_tup h (q _ H' hw)
theorem g_name {σ : L2.St} {i : Nat} {Q : L2.St → Hp → Prop} (h : Q (σ.set i (some v)) H) : gName i v σ H Q := h
section
variable {σ : L2.St} {D : Ends} {c u' : TT} {t1 t2 : TS} {te ta' tb' : TE} {B : Bool → Hp → Prop} {g : TG}
theorem o_if (h : c σ H fun b H1 => if b = true then t1 D σ H1 else t2 D σ H1) : tIfS c t1 t2 D σ H := h
theorem o_or (h : c σ H fun b H1 => if b = true then B true H1 else u' σ H1 B) : tOr c u' σ H B := h
theorem o_and (h : c σ H fun b H1 => if b = true then u' σ H1 B else B false H1) : tAnd c u' σ H B := h
theorem o_not (h : c σ H fun b H1 => B (!b) H1) : tNot c σ H B := h
theorem o_b (h : te σ H fun x H1 => ∃ b, x = .bl b ∧ B b H1) : tB te σ H B := h
theorem o_test (h : te σ H fun x H1 => ∃ b, x = .bl b ∧ B b H1) : tTest te σ H B := h
theorem o_seq (h : t1 { D with nx := t2 D } σ H) : tSeq t1 t2 D σ H := h
theorem o_asg (h : te σ H fun x H1 => g x σ H1 D.nx) : tAsg te g D σ H := h
theorem o_ret (h : te σ H D.rt) : tRet te D σ H := h
theorem o_orV (h : ta' σ H fun x H1 => ∃ b, x = .bl b ∧ if b = true then Q (.bl true) H1 else tb' σ H1 Q) : tOrV ta' tb' σ H Q := h
theorem o_andV (h : ta' σ H fun x H1 => ∃ b, x = .bl b ∧ if b = true then tb' σ H1 Q else Q (.bl false) H1) : tAndV ta' tb' σ H Q := h
end
theorem isi_noTup (h : TyX K H v t) (k : PySem.W.kitOne K t (.type "tuple") = some false) (q : Q (.bl false) H) : rIsi K [v, .ty "tuple"] H Q := isi_at h k q
end
/-! ### x is True, x & 1 of what may be a truth -/
def intOrBl : V → Bool
  | .int _ => true
  | .bl _ => true
  | _ => false
def rIsT : R2 := fun x y H Q => ∃ b, y = .bl b ∧ intOrBl x = true ∧ Q (.bl (decide (x = .bl b))) H
def rNotT : R2 := fun x y H Q => ∃ b, y = .bl b ∧ intOrBl x = true ∧ Q (.bl (!decide (x = .bl b))) H
theorem gives_int_and_bi (p : Bool) (b : Int) (u : Tok) : Gives (Builtin.«int.__and__» ⟨[.bool p, .int b u], []⟩) (.int (Builtin.bitAnd (if p = true then (1 : Int) else 0) b)) :=
  .of_wp fun M A E s Q h => by obtain ⟨hp, g, d, tk, os⟩ := s; wp_walk; exact ⟨_, rfl, h⟩
theorem gives_bool_and_bi (p : Bool) (b : Int) (u : Tok) : Gives (Builtin.«bool.__and__» ⟨[.bool p, .int b u], []⟩) (.int (Builtin.bitAnd (if p = true then (1 : Int) else 0) b)) := by
  show Gives (do rule "bool.bitwise.as-ints"; again (.builtin "int.__and__" ⟨[.bool p, .int b u], []⟩)) _
  exact .rule (.again rfl (by decide +kernel) PySem.F.entry_int_and (gives_int_and_bi p b u))
theorem and_bool_int {prog : Program} {w : World} {A : Around} {E : Value → Shared → Prop} {s : Shared} {p : Bool} {b : Int} {u : Tok} {Q : Value → Shared → Prop} (h : Q (.int (Builtin.bitAnd (if p = true then (1 : Int) else 0) b) s.toks) { s with toks := s.toks + 1 }) : wpAny (model prog w) A (binaryOp .BitAnd (.bool p) (.int b u)) Q E s :=
  binaryOp_left_gives (op := .BitAnd) (T := "bool") (U := "int") (by decide) (typeIs_bool' s p) (fun s' => typeIs_int s' b u) PySem.F.fills_bool_and PySem.F.fills_int_and isSubtype_int_bool PySem.F.slot_bool_and PySem.F.slot_int_rand PySem.F.entry_bool_and (PySem.F.args_bool_and_2 _ _) (gives_bool_and_bi p b u) trivial h
def rAnd1 : R2 := fun x y H Q => y = .int 1 ∧ ((∃ i, x = .int i ∧ Q (.int (i % 2)) H) ∨ (∃ k : Bool, x = .bl k ∧ Q (.int (if k = true then 1 else 0)) H))
section
variable {X : Cx}
theorem op_isT : OpR X (compareOp .Is) rIsT := by
  intro pins s σ H x y v u Q I rx ry h
  obtain ⟨b, rfl, hx, q⟩ := h
  cases (show u = Value.bool b from ry)
  cases x with
  | int i =>
    obtain ⟨t, rfl⟩ := rx
    refine wpAny_is_other rfl (fun z => by cases z) ⟨.bl false, H, I, rfl, ?_⟩
    rw [decide_eq_false (fun z => by cases z)] at q
    exact q
  | bl a =>
    cases (show v = Value.bool a from rx)
    by_cases e : a = b
    · subst e
      exact wpAny_is_self rfl ⟨.bl true, H, I, rfl, by simpa using q⟩
    · exact wpAny_is_other rfl (fun z => e (Value.bool.inj z)) ⟨.bl false, H, I, rfl, by simpa [e] using q⟩
  | _ => cases hx
theorem op_notT : OpR X (compareOp .IsNot) rNotT := by
  intro pins s σ H x y v u Q I rx ry h
  obtain ⟨b, rfl, hx, q⟩ := h
  cases (show u = Value.bool b from ry)
  cases x with
  | int i =>
    obtain ⟨t, rfl⟩ := rx
    refine wpAny_isNot_other rfl (fun z => by cases z) ⟨.bl true, H, I, rfl, ?_⟩
    rw [decide_eq_false (fun z => by cases z)] at q
    exact q
  | bl a =>
    cases (show v = Value.bool a from rx)
    by_cases e : a = b
    · subst e
      exact wpAny_isNot_self rfl ⟨.bl false, H, I, rfl, by simpa using q⟩
    · exact wpAny_isNot_other rfl (fun z => e (Value.bool.inj z)) ⟨.bl true, H, I, rfl, by simpa [e] using q⟩
  | _ => cases hx
theorem op_and1 : OpR X (binaryOp .BitAnd) rAnd1 := by
  intro pins s σ H x y v u Q I rx ry h
  obtain ⟨rfl, ⟨i, rfl, q⟩ | ⟨k, rfl, q⟩⟩ := h
  · obtain ⟨t, rfl⟩ := rx
    obtain ⟨t', rfl⟩ := ry
    rw [← bitAnd_m1] at q
    exact and_int ⟨.int _, H, I.tok _, ⟨_, rfl⟩, q⟩
  · obtain ⟨t', rfl⟩ := ry
    cases (show v = Value.bool k from rx)
    have e : Builtin.bitAnd (if k = true then (1 : Int) else 0) 1 = if k = true then 1 else 0 := by cases k <;> decide
    exact and_bool_int (by rw [e]; exact ⟨.int _, H, I.tok _, ⟨_, rfl⟩, q⟩)
end
/-! ### odd parts -/
theorem pow_pos2 (k : Nat) : (0 : Int) < 2 ^ k := Int.pow_pos (by decide)
theorem pow_two_cast (k : Nat) : ((2 ^ k : Nat) : Int) = 2 ^ k := by
  induction k with
  | zero => rfl
  | succ n ih => rw [Nat.pow_succ, Int.pow_succ, Int.natCast_mul, ih] <;> rfl
def tz : Nat → Nat → Nat
  | 0, _ => 0
  | f + 1, n => if n % 2 = 0 then tz f (n / 2) + 1 else 0
theorem tz_spec : ∀ (f n : Nat), 0 < n → n ≤ f → ∃ a, n = 2 ^ tz f n * (2 * a + 1)
  | 0, n, h, l => by omega
  | f + 1, n, h, l => by
    unfold tz
    by_cases e : n % 2 = 0
    · rw [if_pos e]
      obtain ⟨a, ha⟩ := tz_spec f (n / 2) (by omega) (by omega)
      refine ⟨a, ?_⟩
      rw [Nat.pow_succ, Nat.mul_comm (2 ^ tz f (n / 2)) 2, Nat.mul_assoc, ← ha]
      omega
    · rw [if_neg e]
      exact ⟨n / 2, by omega⟩
def v2 (m : Int) : Nat := tz m.natAbs m.natAbs
theorem v2_spec {m : Int} (h : m ≠ 0) : ∃ a : Int, m = 2 ^ v2 m * (2 * a + 1) := by
  obtain ⟨a, ha⟩ := tz_spec m.natAbs m.natAbs (by omega) (Nat.le_refl _)
  have hc : (m.natAbs : Int) = 2 ^ v2 m * (2 * (a : Int) + 1) := by
    have h1 : (m.natAbs : Int) = ((2 ^ v2 m * (2 * a + 1) : Nat) : Int) := congrArg Int.ofNat ha
    rw [h1, Int.natCast_mul, pow_two_cast]
    rfl
  rcases Int.natAbs_eq m with e | e
  · exact ⟨a, e.trans hc⟩
  · refine ⟨-(a : Int) - 1, ?_⟩
    have h2 : m = -(2 ^ v2 m * (2 * (a : Int) + 1)) := by rw [← hc]; exact e
    have h3 : (2 * (-(a : Int) - 1) + 1) = -(2 * (a : Int) + 1) := by omega
    rw [h3, Int.mul_neg]
    exact h2
theorem odd_unique {k j : Nat} {a b : Int} (h : (2 : Int) ^ k * (2 * a + 1) = 2 ^ j * (2 * b + 1)) : k = j ∧ a = b := by
  rcases Nat.lt_trichotomy k j with l | l | l
  · obtain ⟨i, rfl⟩ : ∃ i, j = k + (i + 1) := ⟨j - k - 1, by omega⟩
    rw [Int.pow_add, Int.mul_assoc] at h
    have h2 := Int.eq_of_mul_eq_mul_left (Int.ne_of_gt (pow_pos2 k)) h
    rw [Int.pow_succ, Int.mul_assoc, Int.mul_left_comm] at h2
    generalize (2 : Int) ^ i * (2 * b + 1) = z at h2
    omega
  · subst l
    have h2 := Int.eq_of_mul_eq_mul_left (Int.ne_of_gt (pow_pos2 k)) h
    exact ⟨rfl, by omega⟩
  · obtain ⟨i, rfl⟩ : ∃ i, k = j + (i + 1) := ⟨k - j - 1, by omega⟩
    rw [Int.pow_add, Int.mul_assoc] at h
    have h2 := Int.eq_of_mul_eq_mul_left (Int.ne_of_gt (pow_pos2 j)) h
    rw [Int.pow_succ, Int.mul_assoc, Int.mul_left_comm] at h2
    generalize (2 : Int) ^ i * (2 * a + 1) = z at h2
    omega
/-- the number m times 2 ** e, told its one way -/
def nrm (m e : Int) : Int × Int := if m = 0 then (0, 0) else (m / 2 ^ v2 m, e + v2 m)
theorem nrm_zero (e : Int) : nrm 0 e = (0, 0) := rfl
theorem nrm_of {m a : Int} {k : Nat} (e : Int) (h : m = 2 ^ k * (2 * a + 1)) : nrm m e = (2 * a + 1, e + k) := by
  have h0 : m ≠ 0 := by
    intro z
    rw [z] at h
    rcases Int.mul_eq_zero.mp h.symm with q | q
    · exact absurd q (Int.ne_of_gt (pow_pos2 k))
    · omega
  obtain ⟨b, hb⟩ := v2_spec h0
  obtain ⟨e1, e2⟩ := odd_unique (hb.symm.trans h)
  unfold nrm
  rw [if_neg h0, e1]
  have h3 : m / 2 ^ k = 2 * a + 1 := by
    rw [h]
    exact Int.mul_ediv_cancel_left _ (Int.ne_of_gt (pow_pos2 k))
  rw [h3]
theorem nrm_num (m e : Int) : isNumB (nrm m e).1 (nrm m e).2 = true := by
  by_cases h : m = 0
  · subst h
    rfl
  · obtain ⟨a, ha⟩ := v2_spec h
    rw [nrm_of e ha]
    unfold isNumB
    rw [decide_eq_true (show (2 * a + 1) % 2 = 1 by omega)]
    rfl
theorem nrm_self {m e : Int} (h : isNumB m e = true) : nrm m e = (m, e) := by
  unfold isNumB at h
  rcases Bool.or_eq_true_iff.mp h with q | q
  · have q2 : m % 2 = 1 := of_decide_eq_true q
    have e1 : m = 2 ^ 0 * (2 * (m / 2) + 1) := by
      rw [Int.pow_zero, Int.one_mul]
      omega
    rw [nrm_of e e1]
    have e2 : 2 * (m / 2) + 1 = m := by omega
    rw [e2]
    show (m, e + 0) = (m, e)
    rw [Int.add_zero]
  · obtain ⟨q1, q2⟩ := Bool.and_eq_true_iff.mp q
    have e1 : m = 0 := of_decide_eq_true q1
    have e2 : e = 0 := of_decide_eq_true q2
    subst e1 e2
    rfl
theorem nrm_abs (m e : Int) : (nrm m e).1.natAbs ≤ m.natAbs := by
  by_cases h : m = 0
  · subst h
    exact Nat.le_refl _
  · obtain ⟨a, ha⟩ := v2_spec h
    rw [nrm_of e ha]
    show (2 * a + 1).natAbs ≤ m.natAbs
    have e1 : m.natAbs = ((2 : Int) ^ v2 m).natAbs * (2 * a + 1).natAbs := by
      have := congrArg Int.natAbs ha
      rw [Int.natAbs_mul] at this
      exact this
    rw [e1]
    refine Nat.le_mul_of_pos_left _ ?_
    have := pow_pos2 (v2 m)
    omega
theorem v2_lt {m : Int} {k : Nat} (h : m.natAbs < 2 ^ k) (h0 : m ≠ 0) : v2 m < k := by
  obtain ⟨a, ha⟩ := v2_spec h0
  have e1 : m.natAbs = ((2 : Int) ^ v2 m).natAbs * (2 * a + 1).natAbs := by
    have := congrArg Int.natAbs ha
    rw [Int.natAbs_mul] at this
    exact this
  have e2 : ((2 : Int) ^ v2 m).natAbs = 2 ^ v2 m := by rw [← pow_two_cast]; rfl
  have h1 : 2 ^ v2 m ≤ m.natAbs := by
    rw [e1, e2]
    exact Nat.le_mul_of_pos_right _ (by omega)
  exact (Nat.pow_lt_pow_iff_right (by decide)).mp (Nat.lt_of_le_of_lt h1 h)
theorem nrm_exp {m e : Int} {k : Nat} (h : m.natAbs < 2 ^ k) : (nrm m e).2.natAbs ≤ e.natAbs + k := by
  by_cases h0 : m = 0
  · subst h0
    exact Nat.zero_le _
  · have := v2_lt h h0
    unfold nrm
    rw [if_neg h0]
    show (e + (v2 m : Int)).natAbs ≤ _
    omega
theorem bits_two (k : Nat) : Builtin.Int.intBits (2 ^ k) = k + 1 := by
  have h : (2 : Int) ^ k ≠ 0 := Int.ne_of_gt (pow_pos2 k)
  unfold Builtin.Int.intBits
  have e : ((2 : Int) ^ k == 0) = false := by
    rw [beq_eq_false_iff_ne]
    exact h
  rw [e]
  have e2 : ((2 : Int) ^ k).natAbs = 2 ^ k := by rw [← pow_two_cast]; rfl
  rw [e2, Nat.log2_two_pow]
  rfl
end Onc

namespace Onc
open PySem PySem.Spec PyProof.Rows L2 Evl
/-! ### numbers at a power -/
def at_ (n : Int × Int) (E : Int) : Int := n.1 * 2 ^ (n.2 - E).toNat
theorem nrm_shift (m e : Int) (k : Nat) : nrm (m * 2 ^ k) e = nrm m (e + k) := by
  by_cases h : m = 0
  · subst h
    rw [Int.zero_mul]
    rfl
  · obtain ⟨a, ha⟩ := v2_spec h
    have e1 : m * 2 ^ k = 2 ^ (v2 m + k) * (2 * a + 1) := by
      rw [Int.pow_add, Int.mul_assoc, Int.mul_comm (2 ^ k) (2 * a + 1), ← Int.mul_assoc, ← ha]
    rw [nrm_of e e1, nrm_of (e + k) ha]
    congr 1
    omega
theorem nrm_at {x E E' : Int} (h : E' ≤ E) : at_ (nrm x E) E' = x * 2 ^ (E - E').toNat := by
  by_cases h0 : x = 0
  · subst h0
    unfold at_
    rw [nrm_zero, Int.zero_mul, Int.zero_mul]
  · obtain ⟨a, ha⟩ := v2_spec h0
    rw [nrm_of E ha]
    show (2 * a + 1) * 2 ^ (E + (v2 x : Int) - E').toNat = x * 2 ^ (E - E').toNat
    have e1 : (E + (v2 x : Int) - E').toNat = v2 x + (E - E').toNat := by omega
    rw [e1, Int.pow_add, ← Int.mul_assoc, Int.mul_comm (2 * a + 1) (2 ^ v2 x), ← ha]
theorem at_same (x E : Int) : at_ (nrm x E) E = x := by
  rw [nrm_at (Int.le_refl E), show (E - E).toNat = 0 by omega, Int.pow_zero, Int.mul_one]
theorem nrm_le {x E : Int} (h : E ≤ 0) : E ≤ (nrm x E).2 := by
  unfold nrm
  by_cases h0 : x = 0
  · rw [if_pos h0]
    exact h
  · rw [if_neg h0]
    show E ≤ E + (v2 x : Int)
    omega
theorem nrm_inj {x y E : Int} (h : nrm x E = nrm y E) : x = y := by
  rw [← at_same x E, h, at_same]
theorem at_split {n : Int × Int} {E M : Int} (h : E ≤ M) (hM : M ≤ n.2) : at_ n E = at_ n M * 2 ^ (M - E).toNat := by
  unfold at_
  rw [show (n.2 - E).toNat = (n.2 - M).toNat + (M - E).toNat by omega, Int.pow_add, Int.mul_assoc]
theorem num_at {n : Int × Int} {E : Int} (hn : isNumB n.1 n.2 = true) (h : E ≤ n.2) : nrm (at_ n E) E = n := by
  unfold at_
  rw [nrm_shift, show E + ((n.2 - E).toNat : Int) = n.2 by omega, nrm_self hn]
def padd (a b : Int × Int) : Int × Int := nrm (at_ a (min a.2 b.2) + at_ b (min a.2 b.2)) (min a.2 b.2)
theorem padd_at {a b : Int × Int} {E : Int} (ha : E ≤ a.2) (hb : E ≤ b.2) : padd a b = nrm (at_ a E + at_ b E) E := by
  have hM : E ≤ min a.2 b.2 := by omega
  rw [at_split (n := a) hM (by omega), at_split (n := b) hM (by omega), ← Int.add_mul, nrm_shift, show E + ((min a.2 b.2 - E).toNat : Int) = min a.2 b.2 by omega]
  rfl
def pneg (a : Int × Int) : Int × Int := (-a.1, a.2)
theorem at_neg (a : Int × Int) (E : Int) : at_ (pneg a) E = -at_ a E := by
  unfold at_ pneg
  rw [Int.neg_mul]
def psub (a b : Int × Int) : Int × Int := padd a (pneg b)
theorem psub_at {a b : Int × Int} {E : Int} (ha : E ≤ a.2) (hb : E ≤ b.2) : psub a b = nrm (at_ a E - at_ b E) E := by
  unfold psub
  rw [padd_at ha (show E ≤ (pneg b).2 from hb), at_neg]
  rfl
def pmul (a b : Int × Int) : Int × Int := nrm (a.1 * b.1) (a.2 + b.2)
theorem pmul_at {a b : Int × Int} {E F : Int} (ha : E ≤ a.2) (hb : F ≤ b.2) : pmul a b = nrm (at_ a E * at_ b F) (E + F) := by
  unfold at_
  have e1 : a.1 * 2 ^ (a.2 - E).toNat * (b.1 * 2 ^ (b.2 - F).toNat) = a.1 * b.1 * 2 ^ ((a.2 - E).toNat + (b.2 - F).toNat) := by
    rw [Int.pow_add, Int.mul_assoc, Int.mul_assoc, Int.mul_left_comm (2 ^ (a.2 - E).toNat) b.1]
  rw [e1, nrm_shift, show E + F + (((a.2 - E).toNat + (b.2 - F).toNat : Nat) : Int) = a.2 + b.2 by omega]
  rfl
/-! ### signs -/
def sgn (x : Int) : Int := if x = 0 then 0 else if 0 < x then 1 else -1
theorem sgn_pos {x : Int} (h : 0 < x) : sgn x = 1 := by
  unfold sgn
  rw [if_neg (by omega), if_pos h]
theorem sgn_neg {x : Int} (h : x < 0) : sgn x = -1 := by
  unfold sgn
  rw [if_neg (by omega), if_neg (by omega)]
theorem sgn_zero : sgn 0 = 0 := rfl
theorem sgn_mul (x : Int) (k : Nat) : sgn (x * 2 ^ k) = sgn x := by
  have hp := pow_pos2 k
  rcases Int.lt_trichotomy x 0 with h | h | h
  · rw [sgn_neg h, sgn_neg (Int.mul_neg_of_neg_of_pos h hp)]
  · subst h
    rw [Int.zero_mul]
  · rw [sgn_pos h, sgn_pos (Int.mul_pos h hp)]
theorem sgn_nrm (x E : Int) : sgn (nrm x E).1 = sgn x := by
  have h := nrm_at (x := x) (E := E) (E' := E) (Int.le_refl E)
  unfold at_ at h
  rw [show (E - E).toNat = 0 by omega, Int.pow_zero, Int.mul_one] at h
  rw [← sgn_mul (nrm x E).1, h]
def pord (a b : Int × Int) : Int := sgn (at_ a (min a.2 b.2) - at_ b (min a.2 b.2))
theorem pord_at {a b : Int × Int} {E : Int} (ha : E ≤ a.2) (hb : E ≤ b.2) : pord a b = sgn (at_ a E - at_ b E) := by
  have hM : E ≤ min a.2 b.2 := by omega
  rw [at_split (n := a) hM (by omega), at_split (n := b) hM (by omega), ← Int.sub_mul, sgn_mul]
  rfl
theorem pord_sub (a b : Int × Int) : sgn (psub a b).1 = pord a b := by
  rw [psub_at (E := min a.2 b.2) (by omega) (by omega), sgn_nrm]
  rfl
/-! ### sizes -/
def psize (a : Int × Int) : Int := (Builtin.Int.intBits a.1 : Int) - 1 + a.2
def prank (a : Int × Int) : Int × Int := (sgn a.1, sgn a.1 * psize a)
theorem bits_of {m : Int} (h : m ≠ 0) : Builtin.Int.intBits m = m.natAbs.log2 + 1 := by
  unfold Builtin.Int.intBits
  rw [show (m == 0) = false from by rw [beq_eq_false_iff_ne]; exact h]
  rfl
theorem at_abs (a : Int × Int) (E : Int) : (at_ a E).natAbs = a.1.natAbs * 2 ^ (a.2 - E).toNat := by
  unfold at_
  rw [Int.natAbs_mul]
  have e : ((2 : Int) ^ (a.2 - E).toNat).natAbs = 2 ^ (a.2 - E).toNat := by
    rw [← pow_two_cast]
    rfl
  rw [e]
theorem size_lt {a b : Int × Int} {E : Int} (ha : a.1 ≠ 0) (hb : b.1 ≠ 0) (ea : E ≤ a.2) (eb : E ≤ b.2) (h : psize a < psize b) : (at_ a E).natAbs < (at_ b E).natAbs := by
  unfold psize at h
  rw [bits_of ha, bits_of hb] at h
  rw [at_abs, at_abs]
  have l1 : a.1.natAbs < 2 ^ (a.1.natAbs.log2 + 1) := Nat.lt_log2_self
  have l2 : 2 ^ b.1.natAbs.log2 ≤ b.1.natAbs := Nat.log2_self_le (by omega)
  have hp : ∀ k : Nat, 0 < 2 ^ k := fun k => Nat.pow_pos (by decide)
  refine Nat.lt_of_lt_of_le (Nat.mul_lt_mul_of_pos_right l1 (hp _)) (Nat.le_trans ?_ (Nat.mul_le_mul_right _ l2))
  rw [← Nat.pow_add, ← Nat.pow_add]
  exact Nat.pow_le_pow_right (by decide) (by omega)
theorem at_sgn (a : Int × Int) (E : Int) : sgn (at_ a E) = sgn a.1 := sgn_mul _ _
theorem sgn_of_pos {x : Int} (h : sgn x = 1) : 0 < x := by
  rcases Int.lt_trichotomy x 0 with q | q | q
  · rw [sgn_neg q] at h
    cases h
  · subst q
    cases h
  · exact q
theorem sgn_of_neg {x : Int} (h : sgn x = -1) : x < 0 := by
  rcases Int.lt_trichotomy x 0 with q | q | q
  · exact q
  · subst q
    cases h
  · rw [sgn_pos q] at h
    cases h
theorem sgn_of_zero {x : Int} (h : sgn x = 0) : x = 0 := by
  rcases Int.lt_trichotomy x 0 with q | q | q
  · rw [sgn_neg q] at h
    cases h
  · exact q
  · rw [sgn_pos q] at h
    cases h
theorem sgn_cases (x : Int) : sgn x = 1 ∨ sgn x = -1 ∨ sgn x = 0 := by
  rcases Int.lt_trichotomy x 0 with q | q | q
  · exact .inr (.inl (sgn_neg q))
  · subst q
    exact .inr (.inr rfl)
  · exact .inl (sgn_pos q)
/-- ranks that differ are in the order of the numbers -/
theorem rank_gt {a b : Int × Int} (h : (prank b).1 < (prank a).1 ∨ ((prank b).1 = (prank a).1 ∧ (prank b).2 < (prank a).2)) : pord a b = 1 := by
  have ea : min a.2 b.2 ≤ a.2 := by omega
  have eb : min a.2 b.2 ≤ b.2 := by omega
  refine sgn_pos ?_
  generalize min a.2 b.2 = E at *
  have sa := at_sgn a E
  have sb := at_sgn b E
  unfold prank at h
  simp only at h
  rcases sgn_cases a.1 with qa | qa | qa <;> rcases sgn_cases b.1 with qb | qb | qb <;> rw [qa] at sa h <;> rw [qb] at sb h
  · have pa := sgn_of_pos sa
    have pb := sgn_of_pos sb
    have na : a.1 ≠ 0 := fun z => by rw [z] at qa; cases qa
    have nb : b.1 ≠ 0 := fun z => by rw [z] at qb; cases qb
    have := size_lt (E := E) nb na eb ea (by omega)
    omega
  · have pa := sgn_of_pos sa
    have pb := sgn_of_neg sb
    omega
  · have pa := sgn_of_pos sa
    have pb := sgn_of_zero sb
    omega
  · omega
  · have pa := sgn_of_neg sa
    have pb := sgn_of_neg sb
    have na : a.1 ≠ 0 := fun z => by rw [z] at qa; cases qa
    have nb : b.1 ≠ 0 := fun z => by rw [z] at qb; cases qb
    have := size_lt (E := E) na nb ea eb (by omega)
    omega
  · omega
  · omega
  · have pa := sgn_of_zero sa
    have pb := sgn_of_neg sb
    omega
  · omega
theorem sgn_swap (x : Int) : sgn (-x) = -sgn x := by
  rcases Int.lt_trichotomy x 0 with q | q | q
  · rw [sgn_neg q, sgn_pos (by omega)]
    rfl
  · subst q
    rfl
  · rw [sgn_pos q, sgn_neg (by omega)]
theorem pord_swap (a b : Int × Int) : pord b a = -pord a b := by
  rw [pord_at (a := b) (b := a) (E := min a.2 b.2) (by omega) (by omega), ← Int.neg_sub, sgn_swap]
  rfl
/-! ### bounds -/
def Bd (a : Int × Int) (B : Nat) : Prop := a.1.natAbs < 2 ^ B ∧ a.2.natAbs ≤ B
theorem Bd.mono {a : Int × Int} {B C : Nat} (h : Bd a B) (l : B ≤ C) : Bd a C := ⟨Nat.lt_of_lt_of_le h.1 (Nat.pow_le_pow_right (by decide) l), Nat.le_trans h.2 l⟩
theorem bd_neg {a : Int × Int} {B : Nat} (h : Bd a B) : Bd (pneg a) B := ⟨by show (-a.1).natAbs < _; rw [Int.natAbs_neg]; exact h.1, h.2⟩
theorem bd_nrm {m e : Int} {k B : Nat} (hm : m.natAbs < 2 ^ k) (he : e.natAbs + k ≤ B) : Bd (nrm m e) B :=
  ⟨Nat.lt_of_le_of_lt (nrm_abs m e) (Nat.lt_of_lt_of_le hm (Nat.pow_le_pow_right (by decide) (by omega))), Nat.le_trans (nrm_exp hm) he⟩
theorem at_bd {a : Int × Int} {B C : Nat} {E : Int} (h : Bd a B) (hE : E.natAbs ≤ C) : (at_ a E).natAbs < 2 ^ (2 * B + C) := by
  rw [at_abs]
  have h1 : a.1.natAbs * 2 ^ (a.2 - E).toNat < 2 ^ B * 2 ^ (a.2 - E).toNat := Nat.mul_lt_mul_of_pos_right h.1 (Nat.pow_pos (by decide))
  rw [← Nat.pow_add] at h1
  have h2 := h.2
  exact Nat.lt_of_lt_of_le h1 (Nat.pow_le_pow_right (by decide) (by omega))
theorem bd_add {a b : Int × Int} {B : Nat} (ha : Bd a B) (hb : Bd b B) : Bd (padd a b) (4 * B + 1) := by
  have hE : (min a.2 b.2).natAbs ≤ B := by
    have := ha.2
    have := hb.2
    omega
  have h1 := at_bd ha hE
  have h2 := at_bd hb hE
  refine bd_nrm (k := 2 * B + B + 1) ?_ (by omega)
  have e : 2 ^ (2 * B + B + 1) = 2 ^ (2 * B + B) * 2 := Nat.pow_succ ..
  omega
theorem bd_sub {a b : Int × Int} {B : Nat} (ha : Bd a B) (hb : Bd b B) : Bd (psub a b) (4 * B + 1) := bd_add ha (bd_neg hb)
theorem bd_mul {a b : Int × Int} {B : Nat} (ha : Bd a B) (hb : Bd b B) : Bd (pmul a b) (4 * B) := by
  refine bd_nrm (k := 2 * B) ?_ ?_
  · rw [Int.natAbs_mul, Nat.two_mul, Nat.pow_add]
    exact Nat.mul_lt_mul'' ha.1 hb.1
  · have := ha.2
    have := hb.2
    omega
theorem num_neg {a : Int × Int} (h : isNumB a.1 a.2 = true) : isNumB (pneg a).1 (pneg a).2 = true := by
  unfold isNumB at *
  show (decide (-a.1 % 2 = 1) || (decide (-a.1 = 0) && decide (a.2 = 0))) = true
  rcases Bool.or_eq_true_iff.mp h with q | q
  · have q2 : a.1 % 2 = 1 := of_decide_eq_true q
    rw [decide_eq_true (show -a.1 % 2 = 1 by omega)]
    rfl
  · obtain ⟨q1, q2⟩ := Bool.and_eq_true_iff.mp q
    have e1 : a.1 = 0 := of_decide_eq_true q1
    rw [q2, decide_eq_true (show -a.1 = 0 by omega), Bool.and_true, Bool.or_true]
theorem num_add (a b : Int × Int) : isNumB (padd a b).1 (padd a b).2 = true := nrm_num _ _
theorem num_mul (a b : Int × Int) : isNumB (pmul a b).1 (pmul a b).2 = true := nrm_num _ _
/-! ### t > u of data -/
section
variable {X : Cx}
def rGtD (K : PySem.W.Frag) : R2 := fun x y H Q => ∃ d e, Dp K H x d ∧ Dp K H y e ∧ PySem.W.alike d e = true ∧ d ≠ .none ∧ d.depth ≤ 64 ∧ Q (.bl (PySem.W.dataLt e d)) H
theorem op_gtD (hu : X.A.units + 64 < cLine) : OpR X (compareOp .Gt) (rGtD X.K) := by
  intro pins s σ H x y v u Q I rx ry h
  obtain ⟨d, e, hd, he, al, nn, dp, q⟩ := h
  obtain ⟨as, r1⟩ := Dp.reads I d x v hd rx
  obtain ⟨bs, r2⟩ := Dp.reads I e y u he ry
  exact PySem.W.gt_data r1 r2 al nn (by have := Nat.min_le_left d.depth e.depth; omega) ⟨.bl _, H, I, rfl, q⟩
end
theorem lt_pairs (a b c d : Int) : PySem.W.dataLt (.tuple [.int a, .int b]) (.tuple [.int c, .int d]) = if a = c then decide (b < d) else decide (a < c) := by
  show lexLt itemOrd [.inl 1, .inl a, .inl 1, .inl b, .inl 0] [.inl 1, .inl c, .inl 1, .inl d, .inl 0] = _
  rw [lex_self (O := itemOrd)]
  by_cases h : a = c
  · subst h
    rw [if_pos rfl, lex_self (O := itemOrd), lex_self (O := itemOrd)]
    by_cases h2 : b = d
    · subst h2
      rw [lex_self (O := itemOrd), lex_self (O := itemOrd), decide_eq_false (Int.lt_irrefl b)]
      rfl
    · rw [lex_diff (O := itemOrd) (fun z => h2 (Sum.inl.inj z))]
      rfl
  · rw [if_neg h, lex_diff (O := itemOrd) (fun z => h (Sum.inl.inj z))]
    rfl
theorem alike_pairs (a b c d : Int) : PySem.W.alike (.tuple [.int a, .int b]) (.tuple [.int c, .int d]) = true := by
  simp [PySem.W.alike, PySem.W.alikeAll]
theorem depth_pair (a b : Int) : (PyData.tuple [.int a, .int b]).depth ≤ 64 := by
  simp [PyData.depth, PyData.depthAll]
theorem eqv_pairs (a b c d : Int) : PyData.eqv (.tuple [.int a, .int b]) (.tuple [.int c, .int d]) = (decide (a = c) && decide (b = d)) := by
  simp [PyData.eqv, PyData.eqvAll]
  rfl
/-! ### numbers in the heap -/
def NumAt (K : PySem.W.Frag) (H : Hp) (v : V) (n : Int × Int) : Prop := ∃ a, v = .ref a ∧ SqT K H a [.int n.1, .int n.2]
theorem numAt_ex {K : PySem.W.Frag} {H H' : Hp} {v : V} {n : Int × Int} (e : Ex H H') (h : NumAt K H v n) : NumAt K H' v n := by
  obtain ⟨a, rfl, h⟩ := h
  exact ⟨a, rfl, ex_t e h⟩
theorem numAt_of {K : PySem.W.Frag} {H : Hp} {p : Addr} {m e : Int} (h : H p = some (.tup [.int m, .int e])) : NumAt K H (.ref p) (m, e) := ⟨p, rfl, st_of h⟩
/-- a good number within bounds -/
structure Gn (K : PySem.W.Frag) (H : Hp) (v : V) (n : Int × Int) (B : Nat) : Prop where
  at_ : NumAt K H v n
  nb : isNumB n.1 n.2 = true
  bd : Bd n B
theorem Gn.ex {K : PySem.W.Frag} {H H' : Hp} {v : V} {n : Int × Int} {B : Nat} (g : Gn K H v n B) (e : Ex H H') : Gn K H' v n B := ⟨numAt_ex e g.at_, g.nb, g.bd⟩
theorem Gn.mono {K : PySem.W.Frag} {H : Hp} {v : V} {n : Int × Int} {B C : Nat} (g : Gn K H v n B) (l : B ≤ C) : Gn K H v n C := ⟨g.at_, g.nb, g.bd.mono l⟩
theorem Gn.num {K : PySem.W.Frag} {H : Hp} {v : V} {n : Int × Int} {B : Nat} (g : Gn K H v n B) : NumIs K H v true := by
  obtain ⟨a, rfl, h⟩ := g.at_
  have := NumIs.num h
  rw [g.nb] at this
  exact this
def LIM : Nat := 20000000
/-- a new pair -/
def NewP (H : Hp) (Q : VK) (n : Int × Int) : Prop := ∀ H' p, Ex H H' → H p = none → H' p = some (.tup [.int n.1, .int n.2]) → Q (.ref p) H'
def spNeed (K : PySem.W.Frag) : Sp := fun vs H Q _ => ∃ v, vs = [v] ∧ NumIs K H v true ∧ ∀ H', Ex H H' → Q .non H'
def spSign : Sp := fun vs H Q _ => ∃ x : Int, vs = [.int x] ∧ Q (.int (sgn x)) H
def spNeg (K : PySem.W.Frag) : Sp := fun vs H Q _ => ∃ v n, vs = [v] ∧ NumAt K H v n ∧ NewP H Q (pneg n)
def spSize (K : PySem.W.Frag) : Sp := fun vs H Q _ => ∃ v n, vs = [v] ∧ NumAt K H v n ∧ Q (.int (psize n)) H
def spFloor (K : PySem.W.Frag) : Sp := fun vs H Q _ => ∃ v n E, vs = [v, .int E] ∧ NumAt K H v n ∧ E ≤ n.2 ∧ Bd n LIM ∧ E.natAbs ≤ LIM ∧ Q (.int (at_ n E)) H
def spRank (K : PySem.W.Frag) : Sp := fun vs H Q _ => ∃ v n, vs = [v] ∧ NumAt K H v n ∧ NewP H Q (prank n)
def spNeed2 (K : PySem.W.Frag) : Sp := fun vs H Q _ => ∃ u v, vs = [u, v] ∧ NumIs K H u true ∧ NumIs K H v true ∧ ∀ H', Ex H H' → Q .non H'
/-- a pair, new or handed in -/
def GotP (K : PySem.W.Frag) (H : Hp) (Q : VK) (n : Int × Int) : Prop := ∀ H' v, Ex H H' → NumAt K H' v n → Q v H'
def spTwo (K : PySem.W.Frag) (g : Int × Int → Int × Int → Int × Int) : Sp := fun vs H Q _ => ∃ u v a b, vs = [u, v] ∧ Gn K H u a LIM ∧ Gn K H v b LIM ∧ GotP K H Q (g a b)
def spLes (K : PySem.W.Frag) : Sp := fun vs H Q _ => ∃ u v a b, vs = [u, v] ∧ Gn K H u a LIM ∧ Gn K H v b LIM ∧ ((pord a b ≤ 0 → ∀ H', Ex H H' → Q u H') ∧ (0 < pord a b → ∀ H', Ex H H' → Q v H'))
def spGre (K : PySem.W.Frag) : Sp := fun vs H Q _ => ∃ u v a b, vs = [u, v] ∧ Gn K H u a LIM ∧ Gn K H v b LIM ∧ ((0 ≤ pord a b → ∀ H', Ex H H' → Q u H') ∧ (pord a b < 0 → ∀ H', Ex H H' → Q v H'))
def spOrd (K : PySem.W.Frag) : Sp := fun vs H Q _ => ∃ u v a b, vs = [u, v] ∧ Gn K H u a LIM ∧ Gn K H v b LIM ∧ ∀ H', Ex H H' → Q (.int (pord a b)) H'
/-! ### evaluation to something -/
section
variable {K : PySem.W.Frag} {σ : L2.St} {H H' : Hp} {ta tb tc te : TE}
def Mono (P : Hp → V → Prop) : Prop := ∀ H H' v, Ex H H' → P H v → P H' v
def EvP (P : Hp → V → Prop) (te : TE) (σ : L2.St) (H : Hp) : Prop := ∀ H1, Ex H H1 → ∀ Q : VK, (∀ v H2, Ex H1 H2 → P H2 v → Q v H2) → te σ H1 Q
theorem EvP.mono {P : Hp → V → Prop} (h : EvP P te σ H) (e : Ex H H') : EvP P te σ H' := fun H1 e1 Q q => h H1 (e.trans e1) Q q
theorem evp_of {P : Hp → V → Prop} {v : V} (h : Ev te σ H v) (m : Mono P) (hv : P H v) : EvP P te σ H := fun H1 e Q q => h H1 e Q fun H2 e2 => q v H2 e2 (m _ _ _ (e.trans e2) hv)
theorem evp_tup2 {P1 P2 : Hp → V → Prop} (m1 : Mono P1) (m2 : Mono P2) (h1 : EvP P1 ta σ H) (h2 : EvP P2 tb σ H) :
    EvP (fun H v => ∃ p x y, v = .ref p ∧ H p = some (.tup [x, y]) ∧ P1 H x ∧ P2 H y) (tTup (tCons ta (tCons tb tNil))) σ H := fun H1 e Q q =>
  h1 H1 e _ fun x H2 e2 p1 => h2 H2 (e.trans e2) _ fun y H3 e3 p2 => ⟨by show 2 ≤ sizeLine; decide, fun p hp => q (.ref p) _ ((e2.trans e3).trans (Ex.new hp)) ⟨p, x, y, rfl, upd_same, m1 _ _ _ (e3.trans (Ex.new hp)) p1, m2 _ _ _ (Ex.new hp) p2⟩⟩
theorem evp_tup3 {P1 P2 P3 : Hp → V → Prop} (m1 : Mono P1) (m2 : Mono P2) (m3 : Mono P3) (h1 : EvP P1 ta σ H) (h2 : EvP P2 tb σ H) (h3 : EvP P3 tc σ H) :
    EvP (fun H v => ∃ p x y z, v = .ref p ∧ H p = some (.tup [x, y, z]) ∧ P1 H x ∧ P2 H y ∧ P3 H z) (tTup (tCons ta (tCons tb (tCons tc tNil)))) σ H := fun H1 e Q q =>
  h1 H1 e _ fun x H2 e2 p1 => h2 H2 (e.trans e2) _ fun y H3 e3 p2 => h3 H3 ((e.trans e2).trans e3) _ fun z H4 e4 p3 => ⟨by show 3 ≤ sizeLine; decide, fun p hp => q (.ref p) _ (((e2.trans e3).trans e4).trans (Ex.new hp)) ⟨p, x, y, z, rfl, upd_same, m1 _ _ _ ((e3.trans e4).trans (Ex.new hp)) p1, m2 _ _ _ (e4.trans (Ex.new hp)) p2, m3 _ _ _ (Ex.new hp) p3⟩⟩
def EvAll (P : Hp → V → Prop) (ta : TA) (σ : L2.St) (H : Hp) (n : Nat) : Prop := ∀ H1, Ex H H1 → ∀ Q : List V → Hp → Prop, (∀ vs H2, Ex H1 H2 → vs.length = n → (∀ v ∈ vs, P H2 v) → Q vs H2) → ta σ H1 Q
theorem eva_nil {P : Hp → V → Prop} : EvAll P tNil σ H 0 := fun H1 _ _ q => q [] H1 (Ex.refl H1) rfl (fun _ h => by cases h)
theorem eva_cons {P : Hp → V → Prop} {tr : TA} {n : Nat} (m : Mono P) (h : EvP P ta σ H) (hr : EvAll P tr σ H n) : EvAll P (tCons ta tr) σ H (n + 1) := fun H1 e Q q =>
  h H1 e _ fun v H2 e2 p => hr H2 (e.trans e2) _ fun vs H3 e3 hl hv => q (v :: vs) H3 (e2.trans e3) (congrArg Nat.succ hl) fun x hx => by
    rcases List.mem_cons.mp hx with z | z
    · rw [z]
      exact m _ _ _ e3 p
    · exact hv x z
/-- a new list, all of P -/
def EvLP (P : Hp → V → Prop) (te : TE) (σ : L2.St) (H : Hp) (n : Nat) : Prop := ∀ H1, Ex H H1 → ∀ Q : VK, (∀ p vs H2, Ex H1 H2 → H1 p = none → H2 p = some (.lst vs) → vs.length = n → (∀ v ∈ vs, P H2 v) → Q (.ref p) H2) → te σ H1 Q
theorem elp_lst {P : Hp → V → Prop} {tr : TA} {n : Nat} (m : Mono P) (h : EvAll P tr σ H n) (hn : n ≤ 100000 := by decide) : EvLP P (tLst tr) σ H n := fun H1 e Q q =>
  h H1 e _ fun vs H2 e2 hl hv => ⟨sz_of (by rw [hl]; exact hn), fun p hp => q p vs _ (e2.trans (Ex.new hp)) (fresh_back e2 hp) upd_same hl fun v hx => m _ _ _ (Ex.new hp) (hv v hx)⟩
def LpAt (P : Hp → V → Prop) (H : Hp) (v : V) (n : Nat) : Prop := ∃ p vs, v = .ref p ∧ H p = some (.lst vs) ∧ vs.length = n ∧ ∀ x ∈ vs, P H x
theorem elp_cat {P : Hp → V → Prop} {v : V} {i n k : Nat} (m : Mono P) (hv : σ[i]? = some (some v)) (hl : LpAt P H v n) (h : EvLP P tb σ H k) (hn : n + k ≤ 100000 := by decide) : EvLP P (tOp rCat (tVar i) tb) σ H (n + k) := fun H1 e Q q => by
  obtain ⟨a, us, rfl, h1, h2, h3⟩ := hl
  refine ⟨.ref a, hv, h H1 e _ fun p vs H2 e2 hp hvs hlen hall => ?_⟩
  refine ⟨a, p, us, vs, rfl, rfl, (e.trans e2) _ _ h1, hvs, sz_of (by rw [h2, hlen]; exact hn), fun r hr => ?_⟩
  refine q r (us ++ vs) _ (e2.trans (Ex.new hr)) (fresh_back e2 hr) upd_same (by rw [List.length_append, h2, hlen]) fun x hx => ?_
  rcases List.mem_append.mp hx with z | z
  · exact m _ _ _ ((e.trans e2).trans (Ex.new hr)) (h3 x z)
  · exact m _ _ _ (Ex.new hr) (hall x z)
theorem q_asgLP {P : Hp → V → Prop} {tz : TS} {D : Ends} {i n : Nat} (h : EvLP P te σ H n) (k : ∀ v H1, Ex H H1 → LpAt P H1 v n → tz D (σ.set i (some v)) H1) : tSeq (tAsg te (gName i)) tz D σ H :=
  h H (Ex.refl H) _ fun p vs H2 e2 _ hv hl hd => k (.ref p) H2 e2 ⟨p, vs, rfl, hv, hl, hd⟩
theorem q_asgP {P : Hp → V → Prop} {tz : TS} {D : Ends} {i : Nat} (h : EvP P te σ H) (k : ∀ v H1, Ex H H1 → P H1 v → tz D (σ.set i (some v)) H1) : tSeq (tAsg te (gName i)) tz D σ H :=
  h H (Ex.refl H) _ fun v H2 e2 p => k v H2 e2 p
theorem s_forLP {P : Hp → V → Prop} {n : Nat} {tl : TE} {g : TG} {tu : TS} {D : Ends} (m : Mono P) (h : EvLP P tl σ H n) (Iv : L2.St → Prop) (h0 : Iv σ)
    (hs : ∀ H2 v σ' H', Ex H H2 → Ex H2 H' → Iv σ' → P H' v → g v σ' H' fun σ2 H3 => tu { D with nx := fun σ3 H4 => Iv σ3 ∧ Ex H2 H4, ct := fun σ3 H4 => Iv σ3 ∧ Ex H2 H4, bk := D.nx } σ2 H3)
    (hd : ∀ σ' H', Ex H H' → Iv σ' → D.nx σ' H') : tFor (iList K tl) g tu D σ H :=
  h H (Ex.refl H) _ fun p vs H2 e2 _ hv _ hall => ⟨p, rfl, ⟨_, sq_of hv⟩, for_list (xs := vs) (fun _ σ' H' => Iv σ' ∧ Ex H2 H') ⟨h0, Ex.refl H2⟩ (fun _ _ _ _ hp => sq_of (hp.2 _ _ hv))
    (fun i x σ' H' hx hp => hs H2 x σ' H' e2 hp.2 hp.1 (m _ _ _ hp.2 (hall x (List.mem_of_getElem? hx)))) (fun σ' H' hp => hd σ' H' (e2.trans hp.2) hp.1)⟩
theorem s_forLA {P : Hp → V → Prop} {n i : Nat} {v : V} {g : TG} {tu : TS} {D : Ends} (m : Mono P) (hv : σ[i]? = some (some v)) (h : LpAt P H v n) (Iv : L2.St → Prop) (h0 : Iv σ)
    (hs : ∀ v σ' H', Ex H H' → Iv σ' → P H' v → g v σ' H' fun σ2 H3 => tu { D with nx := fun σ3 H4 => Iv σ3 ∧ Ex H H4, ct := fun σ3 H4 => Iv σ3 ∧ Ex H H4, bk := D.nx } σ2 H3)
    (hd : ∀ σ' H', Ex H H' → Iv σ' → D.nx σ' H') : tFor (iList K (tVar i)) g tu D σ H := by
  obtain ⟨p, vs, rfl, hp, _, hall⟩ := h
  exact ⟨.ref p, hv, p, rfl, ⟨_, sq_of hp⟩, for_list (xs := vs) (fun _ σ' H' => Iv σ' ∧ Ex H H') ⟨h0, Ex.refl H⟩ (fun _ _ _ _ hq => sq_of (hq.2 _ _ hp))
    (fun i x σ' H' hx hq => hs x σ' H' hq.2 hq.1 (m _ _ _ hq.2 (hall x (List.mem_of_getElem? hx)))) (fun σ' H' hq => hd σ' H' hq.2 hq.1)⟩
theorem o_yes {Q : Bool → Hp → Prop} (h : Q true H) : tYes σ H Q := h
/-! ### numbers by evaluation -/
abbrev EvN (K : PySem.W.Frag) (te : TE) (σ : L2.St) (H : Hp) (n : Int × Int) (B : Nat) : Prop := EvP (fun H v => Gn K H v n B) te σ H
theorem gn_mono {n : Int × Int} {B : Nat} : Mono (fun H v => Gn K H v n B) := fun _ _ _ e g => g.ex e
theorem evn_var {i : Nat} {v : V} {n : Int × Int} {B : Nat} (hv : σ[i]? = some (some v)) (g : Gn K H v n B) : EvN K (tVar i) σ H n B := evp_of (ev_var hv) gn_mono g
theorem evn_new {n : Int × Int} {B : Nat} (hn : isNumB n.1 n.2 = true) (hb : Bd n B) (h : ∀ H1, Ex H H1 → ∀ Q : VK, NewP H1 Q n → te σ H1 Q) : EvN K te σ H n B := fun H1 e Q q => h H1 e Q fun H2 p e2 _ hp => q (.ref p) H2 e2 ⟨numAt_of hp, hn, hb⟩
theorem evn_two {g : Int × Int → Int × Int → Int × Int} {a b : Int × Int} {B1 B2 C : Nat} (ha : EvN K ta σ H a B1) (hb : EvN K tb σ H b B2) (l : B1 + B2 ≤ LIM) (hn : isNumB (g a b).1 (g a b).2 = true) (hC : Bd a (B1 + B2) → Bd b (B1 + B2) → Bd (g a b) C) :
    EvN K (tCall (spTwo K g) [] E0 (tCons ta (tCons tb tNil))) σ H (g a b) C := fun H1 e Q q =>
  ha H1 e _ fun u H2 e2 gu => hb H2 (e.trans e2) _ fun v H3 e3 gv => ⟨u, v, a, b, rfl, (gu.ex e3).mono (by omega), gv.mono (by omega), fun H4 w e4 hw => q w H4 ((e2.trans e3).trans e4) ⟨hw, hn, hC (gu.bd.mono (by omega)) (gv.bd.mono (by omega))⟩⟩
theorem evn_plus {a b : Int × Int} {B1 B2 : Nat} (ha : EvN K ta σ H a B1) (hb : EvN K tb σ H b B2) (l : B1 + B2 ≤ LIM := by decide) : EvN K (tCall (spTwo K padd) [] E0 (tCons ta (tCons tb tNil))) σ H (padd a b) (4 * (B1 + B2) + 1) := evn_two ha hb l (num_add a b) bd_add
theorem evn_less {a b : Int × Int} {B1 B2 : Nat} (ha : EvN K ta σ H a B1) (hb : EvN K tb σ H b B2) (l : B1 + B2 ≤ LIM := by decide) : EvN K (tCall (spTwo K psub) [] E0 (tCons ta (tCons tb tNil))) σ H (psub a b) (4 * (B1 + B2) + 1) := evn_two ha hb l (num_add a _) bd_sub
theorem evn_times {a b : Int × Int} {B1 B2 : Nat} (ha : EvN K ta σ H a B1) (hb : EvN K tb σ H b B2) (l : B1 + B2 ≤ LIM := by decide) : EvN K (tCall (spTwo K pmul) [] E0 (tCons ta (tCons tb tNil))) σ H (pmul a b) (4 * (B1 + B2)) := evn_two ha hb l (num_mul a b) bd_mul
theorem ev_ord {a b : Int × Int} {B1 B2 : Nat} (ha : EvN K ta σ H a B1) (hb : EvN K tb σ H b B2) (l : B1 + B2 ≤ LIM := by decide) : Ev (tCall (spOrd K) [] E0 (tCons ta (tCons tb tNil))) σ H (.int (pord a b)) := fun H1 e Q q =>
  ha H1 e _ fun u H2 e2 gu => hb H2 (e.trans e2) _ fun v H3 e3 gv => ⟨u, v, a, b, rfl, (gu.ex e3).mono (by omega), gv.mono (by omega), fun H4 e4 => q H4 ((e2.trans e3).trans e4)⟩
theorem evn_lit {m e : Int} {B : Nat} (ha : Ev ta σ H (.int m)) (hb : Ev tb σ H (.int e)) (hn : isNumB m e = true) (hB : Bd (m, e) B) : EvN K (tTup (tCons ta (tCons tb tNil))) σ H (m, e) B := fun H1 e1 Q q =>
  ha H1 e1 _ fun H2 e2 => hb H2 (e1.trans e2) _ fun H3 e3 => ⟨by show 2 ≤ sizeLine; decide, fun p hp => q (.ref p) _ ((e2.trans e3).trans (Ex.new hp)) ⟨numAt_of upd_same, hn, hB⟩⟩
theorem numAt_dp {v : V} {n : Int × Int} (h : NumAt K H v n) : Dp K H v (.tuple [.int n.1, .int n.2]) := by
  obtain ⟨a, rfl, h⟩ := h
  exact .tup h (.cons (.int _) (.cons (.int _) .nil))
theorem pair_shaped (m e : Int) : SeqAt.shaped (.tuple [.int m, .int e]) = true := rfl
theorem evb_ne {a b : Int × Int} {B1 B2 : Nat} (ha : EvN K ta σ H a B1) (hb : EvN K tb σ H b B2) : Ev (tOp (rNeD K) ta tb) σ H (.bl (!decide (a = b))) := fun H1 e Q q =>
  ha H1 e _ fun u H2 e2 gu => hb H2 (e.trans e2) _ fun v H3 e3 gv => by
    refine ⟨_, _, numAt_dp (gu.ex e3).at_, numAt_dp gv.at_, pair_shaped _ _, pair_shaped _ _, ?_⟩
    rw [eqv_pairs]
    have e4 : (decide (a.1 = b.1) && decide (a.2 = b.2)) = decide (a = b) := by
      rw [← Bool.decide_and]
      exact decide_eq_decide.mpr ⟨fun z => Prod.ext z.1 z.2, fun z => by rw [z]; exact ⟨rfl, rfl⟩⟩
    rw [e4]
    exact q H3 (e2.trans e3)
theorem evb_eq {a b : Int × Int} {B1 B2 : Nat} (ha : EvN K ta σ H a B1) (hb : EvN K tb σ H b B2) : Ev (tOp (rEqD K) ta tb) σ H (.bl (decide (a = b))) := fun H1 e Q q =>
  ha H1 e _ fun u H2 e2 gu => hb H2 (e.trans e2) _ fun v H3 e3 gv => by
    refine ⟨_, _, numAt_dp (gu.ex e3).at_, numAt_dp gv.at_, pair_shaped _ _, pair_shaped _ _, ?_⟩
    rw [eqv_pairs]
    have e4 : (decide (a.1 = b.1) && decide (a.2 = b.2)) = decide (a = b) := by
      rw [← Bool.decide_and]
      exact decide_eq_decide.mpr ⟨fun z => Prod.ext z.1 z.2, fun z => by rw [z]; exact ⟨rfl, rfl⟩⟩
    rw [e4]
    exact q H3 (e2.trans e3)
/-- two ways to one number are told as no difference -/
theorem evt_same {a b : Int × Int} {B1 B2 : Nat} (ha : EvN K ta σ H a B1) (hb : EvN K tb σ H b B2) (h : a = b) : EvT (tTest (tOp (rNeD K) ta tb)) σ H false := by
  have := et_test (evb_ne ha hb)
  rw [decide_eq_true h] at this
  exact this
theorem q_pass {t : TT} {tu tz : TS} {D : Ends} (h : EvT t σ H false) (k : ∀ H1, Ex H H1 → tz D σ H1) : tSeq (tIfS t tu tNext) tz D σ H := q_when h (fun z => by cases z) (fun _ => k)
/-! ### what is kept where one list changes -/
def Keeps (p : Addr) (H H' : Hp) : Prop := ∀ b o, H b = some o → b ≠ p → H' b = some o
theorem sqT_keep {p a : Addr} {xs ys : List V} (h : SqT K H a xs) (hp : H p = some (.lst ys)) (k : Keeps p H H') : SqT K H' a xs := by
  rcases h with (h | ⟨o, h⟩) | h
  · exact .inl (.inl (k _ _ h (fun z => by rw [z, hp] at h; cases h)))
  · exact .inl (.inr ⟨o, k _ _ h (fun z => by rw [z, hp] at h; cases h)⟩)
  · exact .inr h
theorem gn_keep {p : Addr} {v : V} {n : Int × Int} {B : Nat} {ys : List V} (g : Gn K H v n B) (hp : H p = some (.lst ys)) (k : Keeps p H H') : Gn K H' v n B := by
  obtain ⟨⟨a, rfl, h⟩, h2, h3⟩ := g
  exact ⟨⟨a, rfl, sqT_keep h hp k⟩, h2, h3⟩
theorem keeps_upd {p : Addr} {o : HO} : Keeps p H (upd H p o) := fun b o' h hb => by
  rw [upd_ne hb]
  exact h
theorem Keeps.trans {p : Addr} {H1 : Hp} (a : Keeps p H H') (b : Keeps p H' H1) : Keeps p H H1 := fun c o h hc => b c o (a c o h hc) hc
theorem keeps_ex {p : Addr} (e : Ex H H') : Keeps p H H' := fun b o h _ => e b o h
end
end Onc

namespace Onc
open PySem PySem.Spec PyProof.Rows L2 Evl
/-! ### how sums, products and orders go together -/
section
variable {a b c : Int × Int} {E : Int}
theorem padd_comm (a b : Int × Int) : padd a b = padd b a := by
  rw [padd_at (E := min a.2 b.2) (by omega) (by omega), padd_at (a := b) (b := a) (E := min a.2 b.2) (by omega) (by omega), Int.add_comm]
theorem pmul_comm (a b : Int × Int) : pmul a b = pmul b a := by
  unfold pmul
  rw [Int.mul_comm, Int.add_comm]
theorem at_add (ha : E ≤ a.2) (hb : E ≤ b.2) : at_ (padd a b) E = at_ a E + at_ b E := by
  rw [padd_at ha hb, at_same]
theorem at_sub (ha : E ≤ a.2) (hb : E ≤ b.2) : at_ (psub a b) E = at_ a E - at_ b E := by
  rw [psub_at ha hb, at_same]
theorem le_add (ha : E ≤ a.2) (hb : E ≤ b.2) (h0 : E ≤ 0) : E ≤ (padd a b).2 := by
  rw [padd_at ha hb]
  exact nrm_le h0
theorem le_sub (ha : E ≤ a.2) (hb : E ≤ b.2) (h0 : E ≤ 0) : E ≤ (psub a b).2 := by
  rw [psub_at ha hb]
  exact nrm_le h0
theorem at_mul {F : Int} (ha : E ≤ a.2) (hb : F ≤ b.2) : at_ (pmul a b) (E + F) = at_ a E * at_ b F := by
  rw [pmul_at ha hb, at_same]
theorem le_mul {F : Int} (ha : E ≤ a.2) (hb : F ≤ b.2) (h0 : E + F ≤ 0) : E + F ≤ (pmul a b).2 := by
  rw [pmul_at ha hb]
  exact nrm_le h0
/-- a power below all -/
theorem low3 (a b c : Int × Int) : ∃ E : Int, E ≤ a.2 ∧ E ≤ b.2 ∧ E ≤ c.2 ∧ E ≤ 0 := ⟨min (min a.2 b.2) (min c.2 0), by omega, by omega, by omega, by omega⟩
theorem padd_assoc (a b c : Int × Int) : padd (padd a b) c = padd a (padd b c) := by
  obtain ⟨E, ha, hb, hc, h0⟩ := low3 a b c
  rw [padd_at (le_add ha hb h0) hc, padd_at (b := padd b c) ha (le_add hb hc h0), at_add ha hb, at_add hb hc, Int.add_assoc]
theorem pmul_assoc (a b c : Int × Int) : pmul (pmul a b) c = pmul a (pmul b c) := by
  obtain ⟨E, ha, hb, hc, h0⟩ := low3 a b c
  rw [pmul_at (E := E + E) (F := E) (le_mul ha hb (by omega)) hc, pmul_at (b := pmul b c) (E := E) (F := E + E) ha (le_mul hb hc (by omega)), at_mul ha hb, at_mul hb hc, Int.mul_assoc, Int.add_assoc]
theorem pmul_add (a b c : Int × Int) : pmul a (padd b c) = padd (pmul a b) (pmul a c) := by
  obtain ⟨E, ha, hb, hc, h0⟩ := low3 a b c
  rw [pmul_at (E := E) (F := E) ha (le_add hb hc h0), padd_at (E := E + E) (le_mul ha hb (by omega)) (le_mul ha hc (by omega)), at_add hb hc, at_mul ha hb, at_mul ha hc, Int.mul_add]
theorem sub_add (hn : isNumB a.1 a.2 = true) : psub (padd a b) b = a := by
  obtain ⟨E, ha, hb, hc, h0⟩ := low3 a b b
  rw [psub_at (le_add ha hb h0) hb, at_add ha hb, Int.add_sub_cancel, num_at hn ha]
theorem add_sub (hn : isNumB a.1 a.2 = true) : padd (psub a b) b = a := by
  obtain ⟨E, ha, hb, hc, h0⟩ := low3 a b b
  rw [padd_at (le_sub ha hb h0) hb, at_sub ha hb, Int.sub_add_cancel, num_at hn ha]
theorem sub_self (a : Int × Int) : psub a a = (0, 0) := by
  rw [psub_at (E := a.2) (by omega) (by omega), Int.sub_self]
  rfl
theorem mul_one (hn : isNumB a.1 a.2 = true) : pmul a (1, 0) = a := by
  show nrm (a.1 * 1) (a.2 + 0) = a
  rw [Int.mul_one, Int.add_zero, nrm_self hn]
theorem add_zero (hn : isNumB a.1 a.2 = true) : padd a (0, 0) = a := by
  obtain ⟨E, ha, _, _, h0⟩ := low3 a a a
  rw [padd_at (b := (0, 0)) ha h0]
  have e : at_ (0, 0) E = 0 := Int.zero_mul _
  rw [e, Int.add_zero, num_at hn ha]
theorem mul_zero (a : Int × Int) : pmul a (0, 0) = (0, 0) := by
  show nrm (a.1 * 0) (a.2 + 0) = (0, 0)
  rw [Int.mul_zero]
  rfl
theorem zero_sub (a : Int × Int) : psub (0, 0) a = pmul a (-1, 0) := by
  obtain ⟨E, ha, _, _, h0⟩ := low3 a a a
  rw [psub_at (a := (0, 0)) h0 ha]
  have e : at_ (0, 0) E = 0 := Int.zero_mul _
  rw [e, pmul_at (b := (-1, 0)) (E := E) (F := 0) ha (Int.le_refl 0), Int.add_zero]
  have e2 : at_ (-1, 0) 0 = -1 := rfl
  rw [e2]
  congr 1
  omega
theorem ord_add (a b c : Int × Int) : pord (padd a c) (padd b c) = pord a b := by
  obtain ⟨E, ha, hb, hc, h0⟩ := low3 a b c
  rw [pord_at (le_add ha hc h0) (le_add hb hc h0), pord_at ha hb, at_add ha hc, at_add hb hc]
  congr 1
  omega
theorem sgn_prod (x y : Int) : sgn (x * y) = sgn x * sgn y := by
  rcases Int.lt_trichotomy x 0 with h | h | h <;> rcases Int.lt_trichotomy y 0 with g | g | g
  · rw [sgn_neg h, sgn_neg g, sgn_pos (Int.mul_pos_of_neg_of_neg h g)]
    rfl
  · subst g
    rw [Int.mul_zero, sgn_zero, Int.mul_zero]
  · rw [sgn_neg h, sgn_pos g, sgn_neg (Int.mul_neg_of_neg_of_pos h g)]
    rfl
  · subst h
    rw [Int.zero_mul, sgn_zero, Int.zero_mul]
  · subst h
    rw [Int.zero_mul, sgn_zero, Int.zero_mul]
  · subst h
    rw [Int.zero_mul, sgn_zero, Int.zero_mul]
  · rw [sgn_pos h, sgn_neg g, sgn_neg (Int.mul_neg_of_pos_of_neg h g)]
    rfl
  · subst g
    rw [Int.mul_zero, sgn_zero, Int.mul_zero]
  · rw [sgn_pos h, sgn_pos g, sgn_pos (Int.mul_pos h g)]
    rfl
theorem ord_mul (a b c : Int × Int) : pord (pmul a c) (pmul b c) = pord a b * sgn c.1 := by
  obtain ⟨E, ha, hb, hc, h0⟩ := low3 a b c
  rw [pord_at (E := E + E) (le_mul ha hc (by omega)) (le_mul hb hc (by omega)), pord_at ha hb, at_mul ha hc, at_mul hb hc, ← Int.sub_mul, sgn_prod, at_sgn c]
theorem ord_zero (hn : isNumB a.1 a.2 = true) (hm : isNumB b.1 b.2 = true) : pord a b = 0 ↔ a = b := by
  obtain ⟨E, ha, hb, _, h0⟩ := low3 a b b
  constructor
  · intro h
    rw [pord_at ha hb] at h
    have := sgn_of_zero h
    rw [← num_at hn ha, ← num_at hm hb, show at_ a E = at_ b E by omega]
  · intro h
    subst h
    unfold pord
    rw [Int.sub_self]
    rfl
theorem sgn_le {x : Int} (h : sgn x ≤ 0) : x ≤ 0 := by
  rcases Int.lt_trichotomy x 0 with q | q | q
  · omega
  · omega
  · rw [sgn_pos q] at h
    omega
theorem ord_trans (h1 : pord a b ≤ 0) (h2 : pord b c ≤ 0) : ¬ 0 < pord a c := by
  obtain ⟨E, ha, hb, hc, h0⟩ := low3 a b c
  rw [pord_at ha hb] at h1
  rw [pord_at hb hc] at h2
  rw [pord_at ha hc]
  have h1 := sgn_le h1
  have h2 := sgn_le h2
  intro h
  have h3 : ¬ 0 < at_ a E - at_ c E := by omega
  rcases sgn_cases (at_ a E - at_ c E) with q | q | q
  · exact h3 (sgn_of_pos q)
  · omega
  · omega
theorem pord_range (a b : Int × Int) : -1 ≤ pord a b ∧ pord a b ≤ 1 := by
  unfold pord
  rcases sgn_cases (at_ a (min a.2 b.2) - at_ b (min a.2 b.2)) with z | z | z <;> rw [z] <;> decide
theorem b2i_sgn (x : Int) : (if decide (0 < x) = true then (1 : Int) else 0) - (if decide (x < 0) = true then 1 else 0) = sgn x := by
  rcases Int.lt_trichotomy x 0 with q | q | q
  · rw [sgn_neg q, decide_eq_true q, decide_eq_false (by omega)]
    rfl
  · subst q
    rfl
  · rw [sgn_pos q, decide_eq_true q, decide_eq_false (by omega)]
    rfl
end
theorem num_zero {n : Int × Int} (h : isNumB n.1 n.2 = true) (h0 : n.1 = 0) : n = (0, 0) := by
  unfold isNumB at h
  rw [h0] at h
  rcases Bool.or_eq_true_iff.mp h with q | q
  · exact absurd (of_decide_eq_true q) (by decide)
  · exact Prod.ext h0 (of_decide_eq_true (Bool.and_eq_true_iff.mp q).2)
theorem num_odd {n : Int × Int} (h : isNumB n.1 n.2 = true) (h0 : n.1 ≠ 0) : n.1 % 2 = 1 := by
  unfold isNumB at h
  rcases Bool.or_eq_true_iff.mp h with q | q
  · exact of_decide_eq_true q
  · exact absurd (of_decide_eq_true (Bool.and_eq_true_iff.mp q).1) h0
theorem odd_num {m e : Int} (h : m % 2 = 1) : isNumB m e = true := by
  unfold isNumB
  rw [decide_eq_true h]
  rfl
theorem padd_zero_r {a b : Int × Int} (ha : isNumB a.1 a.2 = true) (h : b = (0, 0)) : padd a b = a := by
  subst h
  exact add_zero ha
/-- the sum at the lesser power, where the other one is even there -/
theorem padd_gt {a b : Int × Int} (hb : isNumB b.1 b.2 = true) (h0 : b.1 ≠ 0) (h : b.2 < a.2) : padd a b = (a.1 * 2 ^ (a.2 - b.2).toNat + b.1, b.2) := by
  rw [padd_at (E := b.2) (by omega) (by omega)]
  have e1 : at_ b b.2 = b.1 := by
    unfold at_
    rw [show (b.2 - b.2).toNat = 0 by omega, Int.pow_zero, Int.mul_one]
  rw [e1]
  refine nrm_self (odd_num ?_)
  have o := num_odd hb h0
  show (a.1 * 2 ^ (a.2 - b.2).toNat + b.1) % 2 = 1
  obtain ⟨k, hk⟩ : ∃ k, (a.2 - b.2).toNat = k + 1 := ⟨(a.2 - b.2).toNat - 1, by omega⟩
  rw [hk, Int.pow_succ, ← Int.mul_assoc]
  generalize a.1 * 2 ^ k = z
  omega
end Onc

namespace Onc
open PySem PySem.Spec PyProof.Rows L2 Evl
/-! ### lists of numbers -/
section
variable {K : PySem.W.Frag} {σ : L2.St} {H H' : Hp} {ta tb tc te : TE}
def GnL (K : PySem.W.Frag) (H : Hp) (B : Nat) : List V → List (Int × Int) → Prop
  | [], [] => True
  | v :: vs, n :: ns => Gn K H v n B ∧ GnL K H B vs ns
  | _, _ => False
theorem gnL_ex {B : Nat} (e : Ex H H') : ∀ {vs : List V} {ns : List (Int × Int)}, GnL K H B vs ns → GnL K H' B vs ns
  | [], [], _ => trivial
  | _ :: _, _ :: _, h => ⟨h.1.ex e, gnL_ex e h.2⟩
theorem gnL_len {B : Nat} : ∀ {vs : List V} {ns : List (Int × Int)}, GnL K H B vs ns → vs.length = ns.length
  | [], [], _ => rfl
  | _ :: _, _ :: _, h => congrArg Nat.succ (gnL_len h.2)
theorem gnL_keep {B : Nat} {p : Addr} {ys : List V} (hp : H p = some (.lst ys)) (k : Keeps p H H') : ∀ {vs : List V} {ns : List (Int × Int)}, GnL K H B vs ns → GnL K H' B vs ns
  | [], [], _ => trivial
  | _ :: _, _ :: _, h => ⟨gn_keep h.1 hp k, gnL_keep hp k h.2⟩
theorem gnL_app {B : Nat} : ∀ {vs ws : List V} {ns ms : List (Int × Int)}, GnL K H B vs ns → GnL K H B ws ms → GnL K H B (vs ++ ws) (ns ++ ms)
  | [], _, [], _, _, h => h
  | _ :: _, _, _ :: _, _, h1, h => ⟨h1.1, gnL_app h1.2 h⟩
theorem gnL_mem {B : Nat} : ∀ {vs : List V} {ns : List (Int × Int)}, GnL K H B vs ns → ∀ {i : Nat} {v : V}, vs[i]? = some v → ∃ n, Gn K H v n B
  | [], [], _, i, v, h => by simp at h
  | x :: _, n :: _, g, 0, v, h => by
    have e : x = v := Option.some.inj h
    subst e
    exact ⟨n, g.1⟩
  | _ :: _, _ :: _, g, i + 1, v, h => gnL_mem g.2 (i := i) h
def pairD (n : Int × Int) : PyData := .tuple [.int n.1, .int n.2]
theorem gnL_dp {B : Nat} : ∀ {vs : List V} {ns : List (Int × Int)}, GnL K H B vs ns → DpAll K H vs (ns.map pairD)
  | [], [], _ => .nil
  | _ :: _, _ :: _, h => .cons (numAt_dp h.1.at_) (gnL_dp h.2)
theorem lay_pairs : ∀ ns : List (Int × Int), PyData.canLayAll0 (ns.map pairD) = true
  | [] => rfl
  | n :: ns => by
    show (PyData.canLay0 (pairD n) && PyData.canLayAll0 (ns.map pairD)) = true
    rw [lay_pairs ns]
    rfl
theorem dep_pairs : ∀ ns : List (Int × Int), PyData.depthAll (ns.map pairD) ≤ 1
  | [] => by simp [PyData.depthAll]
  | n :: ns => by
    have h := dep_pairs ns
    have h2 : PyData.depth (pairD n) = 1 := by simp [pairD, PyData.depth, PyData.depthAll]
    have e : PyData.depthAll ((n :: ns).map pairD) = max (PyData.depth (pairD n)) (PyData.depthAll (ns.map pairD)) := by rw [List.map_cons, PyData.depthAll]
    rw [e, h2]
    omega
theorem list_lay (ns : List (Int × Int)) : PyData.canLay0 (.list (ns.map pairD)) = true := by
  rw [PyData.canLay0]
  exact lay_pairs ns
theorem list_shaped (ns : List (Int × Int)) : SeqAt.shaped (.list (ns.map pairD)) = true := by
  unfold SeqAt.shaped
  rw [list_lay ns, PyData.depth]
  have := dep_pairs ns
  rw [decide_eq_true (by omega)]
  rfl
/-- a list of these numbers -/
def LnAt (K : PySem.W.Frag) (H : Hp) (v : V) (ns : List (Int × Int)) (B : Nat) : Prop := ∃ p vs, v = .ref p ∧ H p = some (.lst vs) ∧ GnL K H B vs ns
theorem lnAt_ex {v : V} {ns : List (Int × Int)} {B : Nat} (e : Ex H H') (h : LnAt K H v ns B) : LnAt K H' v ns B := by
  obtain ⟨p, vs, e1, h1, h2⟩ := h
  exact ⟨p, vs, e1, e _ _ h1, gnL_ex e h2⟩
theorem evt_lists {u v : V} {i j : Nat} {ns : List (Int × Int)} {B C : Nat} (hu : σ[i]? = some (some u)) (hv : σ[j]? = some (some v)) (h1 : LnAt K H u ns B) (h2 : LnAt K H v ns C) : EvT (tTest (tOp (rNeD K) (tVar i) (tVar j))) σ H false := fun H1 e Q q => by
  obtain ⟨p, vs, rfl, hp, gp⟩ := lnAt_ex e h1
  obtain ⟨r, ws, rfl, hr, gr⟩ := lnAt_ex e h2
  refine ⟨.ref p, hu, .ref r, hv, .list (ns.map pairD), .list (ns.map pairD), .lst (sq_of hp) (gnL_dp gp), .lst (sq_of hr) (gnL_dp gr), list_shaped ns, list_shaped ns, false, ?_, q H1 (Ex.refl H1)⟩
  rw [SeqAt.eqv_refl _ (list_lay ns)]
  rfl
def EvNs (K : PySem.W.Frag) (ta : TA) (σ : L2.St) (H : Hp) (ns : List (Int × Int)) (B : Nat) : Prop := ∀ H1, Ex H H1 → ∀ Q : List V → Hp → Prop, (∀ vs H2, Ex H1 H2 → GnL K H2 B vs ns → Q vs H2) → ta σ H1 Q
theorem evns_nil {B : Nat} : EvNs K tNil σ H [] B := fun H1 _ _ q => q [] H1 (Ex.refl H1) trivial
theorem evns_cons {tr : TA} {n : Int × Int} {ns : List (Int × Int)} {B C : Nat} (h : EvN K ta σ H n C) (hr : EvNs K tr σ H ns B) (l : C ≤ B := by decide) : EvNs K (tCons ta tr) σ H (n :: ns) B := fun H1 e Q q =>
  h H1 e _ fun v H2 e2 g => hr H2 (e.trans e2) _ fun vs H3 e3 hv => q (v :: vs) H3 (e2.trans e3) ⟨(g.ex e3).mono l, hv⟩
theorem EvNs.mono {ta : TA} {ns : List (Int × Int)} {B : Nat} (h : EvNs K ta σ H ns B) (e : Ex H H') : EvNs K ta σ H' ns B := fun H1 e1 Q q => h H1 (e.trans e1) Q q
theorem q_asgLN {tr : TA} {ns : List (Int × Int)} {B i : Nat} {tz : TS} {D : Ends} (h : EvNs K tr σ H ns B) (hl : ns.length ≤ 1000) (k : ∀ p vs H1, Ex H H1 → H p = none → H1 p = some (.lst vs) → GnL K H1 B vs ns → tz D (σ.set i (some (.ref p))) H1) : tSeq (tAsg (tLst tr) (gName i)) tz D σ H :=
  h H (Ex.refl H) _ fun vs H2 e2 hv => ⟨sz_of (by rw [gnL_len hv]; omega), fun p hp => k p vs _ (e2.trans (Ex.new hp)) (fresh_back e2 hp) upd_same (gnL_ex (Ex.new hp) hv)⟩
theorem q_asgLNcat {tr : TA} {ns ms : List (Int × Int)} {B i j : Nat} {v : V} {tz : TS} {D : Ends} (hv : σ[j]? = some (some v)) (hn : LnAt K H v ns B) (h : EvNs K tr σ H ms B) (hl : ns.length + ms.length ≤ 1000) (k : ∀ w H1, Ex H H1 → LnAt K H1 w (ns ++ ms) B → tz D (σ.set i (some w)) H1) : tSeq (tAsg (tOp rCat (tVar j) (tLst tr)) (gName i)) tz D σ H := by
  obtain ⟨a, us, rfl, h1, h2⟩ := hn
  refine ⟨.ref a, hv, h H (Ex.refl H) _ fun vs H2 e2 hvs => ⟨sz_of (by rw [gnL_len hvs]; omega), fun p hp => ?_⟩⟩
  have ap : a ≠ p := ne_of_none (e2 _ _ h1) hp
  refine ⟨a, p, us, vs, rfl, rfl, by rw [upd_ne ap]; exact e2 _ _ h1, upd_same, sz_of (by rw [gnL_len h2, gnL_len hvs]; omega), fun r hr => ?_⟩
  have e3 := (e2.trans (Ex.new (o := .lst vs) hp)).trans (Ex.new (o := .lst (us ++ vs)) hr)
  exact k (.ref r) _ e3 ⟨r, us ++ vs, rfl, upd_same, gnL_app (gnL_ex e3 h2) (gnL_ex ((Ex.new hp).trans (Ex.new hr)) hvs)⟩
/-! ### by names -/
theorem evn_kw {g : Int × Int → Int × Int → Int × Int} {a b : Int × Int} {B1 B2 C : Nat} (ha : EvN K ta σ H a B1) (hb : EvN K tb σ H b B2) (l : B1 + B2 ≤ LIM) (hn : isNumB (g a b).1 (g a b).2 = true) (hC : Bd a (B1 + B2) → Bd b (B1 + B2) → Bd (g a b) C) :
    EvN K (tCallN 0 2 (spTwo K g) (fun _ zs => zs.reverse) E0 tNil (tCons tb (tCons ta tNil))) σ H (g a b) C := fun H1 e Q q =>
  hb H1 e _ fun v H2 e2 gv => ha H2 (e.trans e2) _ fun u H3 e3 gu => ⟨rfl, rfl, u, v, a, b, rfl, gu.mono (by omega), (gv.ex e3).mono (by omega), fun H4 w e4 hw => q w H4 ((e2.trans e3).trans e4) ⟨hw, hn, hC (gu.bd.mono (by omega)) (gv.bd.mono (by omega))⟩⟩
theorem ev_ordkw {a b : Int × Int} {B1 B2 : Nat} (ha : EvN K ta σ H a B1) (hb : EvN K tb σ H b B2) (l : B1 + B2 ≤ LIM) : Ev (tCallN 0 2 (spOrd K) (fun _ zs => zs.reverse) E0 tNil (tCons tb (tCons ta tNil))) σ H (.int (pord a b)) := fun H1 e Q q =>
  hb H1 e _ fun v H2 e2 gv => ha H2 (e.trans e2) _ fun u H3 e3 gu => ⟨rfl, rfl, u, v, a, b, rfl, gu.mono (by omega), (gv.ex e3).mono (by omega), fun H4 e4 => q H4 ((e2.trans e3).trans e4)⟩
end
theorem cmp_sgn (x y : Int) : (if decide (y < x) = true then (1 : Int) else 0) - (if decide (x < y) = true then 1 else 0) = sgn (x - y) := by
  rw [← b2i_sgn (x - y)]
  have e1 : decide (0 < x - y) = decide (y < x) := decide_eq_decide.mpr ⟨fun h => by omega, fun h => by omega⟩
  have e2 : decide (x - y < 0) = decide (x < y) := decide_eq_decide.mpr ⟨fun h => by omega, fun h => by omega⟩
  rw [e1, e2]
end Onc

namespace Onc
open PySem PySem.Spec PyProof.Rows L2 Evl
/-! ### least and greatest -/
def IsLeast (n : Int × Int) (ns : List (Int × Int)) : Prop := n ∈ ns ∧ ∀ m ∈ ns, pord n m ≤ 0
def IsGreat (n : Int × Int) (ns : List (Int × Int)) : Prop := n ∈ ns ∧ ∀ m ∈ ns, pord m n ≤ 0
def AllNum (ns : List (Int × Int)) : Prop := ∀ n ∈ ns, isNumB n.1 n.2 = true
theorem pord_anti {a b : Int × Int} (ha : isNumB a.1 a.2 = true) (hb : isNumB b.1 b.2 = true) (h1 : pord a b ≤ 0) (h2 : pord b a ≤ 0) : a = b := by
  rw [pord_swap a b] at h2
  exact (ord_zero ha hb).mp (by omega)
theorem least_unique {n m : Int × Int} {ns ms : List (Int × Int)} (h1 : IsLeast n ns) (h2 : IsLeast m ms) (hs : ∀ x, x ∈ ns ↔ x ∈ ms) (a : AllNum ns) : n = m :=
  pord_anti (a n h1.1) (a m ((hs m).mpr h2.1)) (h1.2 m ((hs m).mpr h2.1)) (h2.2 n ((hs n).mp h1.1))
theorem great_unique {n m : Int × Int} {ns ms : List (Int × Int)} (h1 : IsGreat n ns) (h2 : IsGreat m ms) (hs : ∀ x, x ∈ ns ↔ x ∈ ms) (a : AllNum ns) : n = m :=
  pord_anti (a n h1.1) (a m ((hs m).mpr h2.1)) (h2.2 n ((hs n).mp h1.1)) (h1.2 m ((hs m).mpr h2.1))
theorem pneg_pneg (a : Int × Int) : pneg (pneg a) = a := by
  unfold pneg
  simp
theorem pord_neg (a b : Int × Int) : pord (pneg a) (pneg b) = pord b a := by
  have ha : min a.2 b.2 ≤ (pneg a).2 := by show min a.2 b.2 ≤ a.2; omega
  have hb : min a.2 b.2 ≤ (pneg b).2 := by show min a.2 b.2 ≤ b.2; omega
  rw [pord_at ha hb, at_neg, at_neg, pord_at (a := b) (b := a) (E := min a.2 b.2) (by omega) (by omega)]
  congr 1
  omega
theorem great_neg {n : Int × Int} {ns : List (Int × Int)} (h : IsLeast n (ns.map pneg)) : IsGreat (pneg n) ns := by
  obtain ⟨h1, h2⟩ := h
  obtain ⟨m, hm, e⟩ := List.mem_map.mp h1
  refine ⟨by rw [← e, pneg_pneg]; exact hm, fun x hx => ?_⟩
  have := h2 (pneg x) (List.mem_map.mpr ⟨x, hx, rfl⟩)
  rw [← pneg_pneg x, pord_neg]
  exact this
theorem least_le_great {n m : Int × Int} {ns : List (Int × Int)} (h1 : IsLeast n ns) (h2 : IsGreat m ns) : pord n m ≤ 0 := h1.2 m h2.1
theorem add_le {a b c d : Int × Int} (h1 : pord a b ≤ 0) (h2 : pord c d ≤ 0) : pord (padd a c) (padd b d) ≤ 0 := by
  obtain ⟨E, ha, hb, hc, h0⟩ := low3 a b c
  obtain ⟨E2, ha2, hd, hc2, h02⟩ := low3 a d c
  have l : min E E2 ≤ a.2 ∧ min E E2 ≤ b.2 ∧ min E E2 ≤ c.2 ∧ min E E2 ≤ d.2 ∧ min E E2 ≤ 0 := by omega
  obtain ⟨la, lb, lc, ld, l0⟩ := l
  rw [pord_at la lb] at h1
  rw [pord_at lc ld] at h2
  rw [pord_at (le_add la lc l0) (le_add lb ld l0), at_add la lc, at_add lb ld]
  have h1 := sgn_le h1
  have h2 := sgn_le h2
  rcases sgn_cases (at_ a (min E E2) + at_ c (min E E2) - (at_ b (min E E2) + at_ d (min E E2))) with q | q | q
  · have := sgn_of_pos q
    omega
  · omega
  · omega
theorem pord_self (a : Int × Int) : pord a a = 0 := by
  unfold pord
  rw [Int.sub_self]
  rfl
/-! ### products of ends -/
theorem ord_at {a b : Int × Int} {E : Int} (ha : E ≤ a.2) (hb : E ≤ b.2) : pord a b ≤ 0 ↔ at_ a E ≤ at_ b E := by
  rw [pord_at ha hb]
  constructor
  · intro h
    have := sgn_le h
    omega
  · intro h
    rcases sgn_cases (at_ a E - at_ b E) with q | q | q
    · have := sgn_of_pos q
      omega
    · omega
    · omega
theorem at_nonneg {a : Int × Int} {E : Int} (h : 0 ≤ a.1) : 0 ≤ at_ a E := Int.mul_nonneg h (Int.le_of_lt (pow_pos2 _))
theorem at_nonpos {a : Int × Int} {E : Int} (h : a.1 ≤ 0) : at_ a E ≤ 0 := Int.mul_nonpos_of_nonpos_of_nonneg h (Int.le_of_lt (pow_pos2 _))
def prods (a b c d : Int × Int) : List (Int × Int) := [pmul a c, pmul a d, pmul b c, pmul b d]
section
variable {a b c d x y : Int × Int} {E : Int}
theorem ord_mul2 {z w : Int × Int} (hx : E ≤ x.2) (hy : E ≤ y.2) (hz : E ≤ z.2) (hw : E ≤ w.2) (h0 : E ≤ 0) : pord (pmul x y) (pmul z w) ≤ 0 ↔ at_ x E * at_ y E ≤ at_ z E * at_ w E := by
  rw [ord_at (le_mul hx hy (show E + E ≤ 0 by omega)) (le_mul hz hw (show E + E ≤ 0 by omega)), at_mul hx hy, at_mul hz hw]
theorem least4 (ha : E ≤ a.2) (hb : E ≤ b.2) (hc : E ≤ c.2) (hd : E ≤ d.2) (h0 : E ≤ 0) (hx : E ≤ x.2) (hy : E ≤ y.2) (hm : pmul x y ∈ prods a b c d)
    (h : at_ x E * at_ y E ≤ at_ a E * at_ c E ∧ at_ x E * at_ y E ≤ at_ a E * at_ d E ∧ at_ x E * at_ y E ≤ at_ b E * at_ c E ∧ at_ x E * at_ y E ≤ at_ b E * at_ d E) : IsLeast (pmul x y) (prods a b c d) := by
  refine ⟨hm, fun m hm => ?_⟩
  obtain ⟨h1, h2, h3, h4⟩ := h
  simp only [prods, List.mem_cons, List.not_mem_nil, or_false] at hm
  rcases hm with rfl | rfl | rfl | rfl
  · exact (ord_mul2 hx hy ha hc h0).mpr h1
  · exact (ord_mul2 hx hy ha hd h0).mpr h2
  · exact (ord_mul2 hx hy hb hc h0).mpr h3
  · exact (ord_mul2 hx hy hb hd h0).mpr h4
theorem great4 (ha : E ≤ a.2) (hb : E ≤ b.2) (hc : E ≤ c.2) (hd : E ≤ d.2) (h0 : E ≤ 0) (hx : E ≤ x.2) (hy : E ≤ y.2) (hm : pmul x y ∈ prods a b c d)
    (h : at_ a E * at_ c E ≤ at_ x E * at_ y E ∧ at_ a E * at_ d E ≤ at_ x E * at_ y E ∧ at_ b E * at_ c E ≤ at_ x E * at_ y E ∧ at_ b E * at_ d E ≤ at_ x E * at_ y E) : IsGreat (pmul x y) (prods a b c d) := by
  refine ⟨hm, fun m hm => ?_⟩
  obtain ⟨h1, h2, h3, h4⟩ := h
  simp only [prods, List.mem_cons, List.not_mem_nil, or_false] at hm
  rcases hm with rfl | rfl | rfl | rfl
  · exact (ord_mul2 ha hc hx hy h0).mpr h1
  · exact (ord_mul2 ha hd hx hy h0).mpr h2
  · exact (ord_mul2 hb hc hx hy h0).mpr h3
  · exact (ord_mul2 hb hd hx hy h0).mpr h4
theorem m_ac : pmul a c ∈ prods a b c d := by simp [prods]
theorem m_ad : pmul a d ∈ prods a b c d := by simp [prods]
theorem m_bc : pmul b c ∈ prods a b c d := by simp [prods]
theorem m_bd : pmul b d ∈ prods a b c d := by simp [prods]
theorem lm {p q r : Int} (h : p ≤ q) (hr : 0 ≤ r) : r * p ≤ r * q := Int.mul_le_mul_of_nonneg_left h hr
theorem lm' {p q r : Int} (h : p ≤ q) (hr : r ≤ 0) : r * q ≤ r * p := Int.mul_le_mul_of_nonpos_left hr h
theorem rm {p q r : Int} (h : p ≤ q) (hr : 0 ≤ r) : p * r ≤ q * r := Int.mul_le_mul_of_nonneg_right h hr
theorem rm' {p q r : Int} (h : p ≤ q) (hr : r ≤ 0) : q * r ≤ p * r := Int.mul_le_mul_of_nonpos_right h hr
theorem low4 (a b c d : Int × Int) : ∃ E : Int, E ≤ a.2 ∧ E ≤ b.2 ∧ E ≤ c.2 ∧ E ≤ d.2 ∧ E ≤ 0 := ⟨min (min (min a.2 b.2) (min c.2 d.2)) 0, by omega, by omega, by omega, by omega, by omega⟩
theorem ends_a (hab : pord a b ≤ 0) (hcd : pord c d ≤ 0) (h : 0 ≤ a.1) : IsLeast (pmul (if 0 ≤ c.1 then a else b) c) (prods a b c d) ∧ IsGreat (pmul (if 0 ≤ d.1 then b else a) d) (prods a b c d) := by
  obtain ⟨E, ha, hb, hc, hd, h0⟩ := low4 a b c d
  have A := (ord_at ha hb).mp hab
  have C := (ord_at hc hd).mp hcd
  have sA : 0 ≤ at_ a E := at_nonneg h
  have f1 := lm C sA
  have f2 := lm C (Int.le_trans sA A)
  constructor
  · by_cases z : 0 ≤ c.1
    · have sC : 0 ≤ at_ c E := at_nonneg z
      have f3 := rm A sC
      rw [if_pos z]
      exact least4 ha hb hc hd h0 ha hc m_ac ⟨Int.le_refl _, by omega, by omega, by omega⟩
    · have sC : at_ c E ≤ 0 := at_nonpos (by omega)
      have f3 := rm' A sC
      rw [if_neg z]
      exact least4 ha hb hc hd h0 hb hc m_bc ⟨by omega, by omega, Int.le_refl _, by omega⟩
  · by_cases z : 0 ≤ d.1
    · have sD : 0 ≤ at_ d E := at_nonneg z
      have f3 := rm A sD
      rw [if_pos z]
      exact great4 ha hb hc hd h0 hb hd m_bd ⟨by omega, by omega, by omega, Int.le_refl _⟩
    · have sD : at_ d E ≤ 0 := at_nonpos (by omega)
      have f3 := rm' A sD
      rw [if_neg z]
      exact great4 ha hb hc hd h0 ha hd m_ad ⟨by omega, Int.le_refl _, by omega, by omega⟩
theorem ends_b (hab : pord a b ≤ 0) (hcd : pord c d ≤ 0) (h : b.1 ≤ 0) : IsLeast (pmul (if 0 ≤ d.1 then a else b) d) (prods a b c d) ∧ IsGreat (pmul (if c.1 ≤ 0 then a else b) c) (prods a b c d) := by
  obtain ⟨E, ha, hb, hc, hd, h0⟩ := low4 a b c d
  have A := (ord_at ha hb).mp hab
  have C := (ord_at hc hd).mp hcd
  have sB : at_ b E ≤ 0 := at_nonpos h
  have f1 := lm' C sB
  have f2 := lm' C (Int.le_trans A sB)
  constructor
  · by_cases z : 0 ≤ d.1
    · have sD : 0 ≤ at_ d E := at_nonneg z
      have f3 := rm A sD
      rw [if_pos z]
      exact least4 ha hb hc hd h0 ha hd m_ad ⟨by omega, Int.le_refl _, by omega, by omega⟩
    · have sD : at_ d E ≤ 0 := at_nonpos (by omega)
      have f3 := rm' A sD
      rw [if_neg z]
      exact least4 ha hb hc hd h0 hb hd m_bd ⟨by omega, by omega, by omega, Int.le_refl _⟩
  · by_cases z : c.1 ≤ 0
    · have sC : at_ c E ≤ 0 := at_nonpos z
      have f3 := rm' A sC
      rw [if_pos z]
      exact great4 ha hb hc hd h0 ha hc m_ac ⟨Int.le_refl _, by omega, by omega, by omega⟩
    · have sC : 0 ≤ at_ c E := at_nonneg (by omega)
      have f3 := rm A sC
      rw [if_neg z]
      exact great4 ha hb hc hd h0 hb hc m_bc ⟨by omega, by omega, Int.le_refl _, by omega⟩
theorem ends_c (hab : pord a b ≤ 0) (hcd : pord c d ≤ 0) (h1 : a.1 ≤ 0) (h2 : 0 ≤ b.1) (h : 0 ≤ c.1) : IsLeast (pmul a d) (prods a b c d) ∧ IsGreat (pmul b d) (prods a b c d) := by
  obtain ⟨E, ha, hb, hc, hd, h0⟩ := low4 a b c d
  have A := (ord_at ha hb).mp hab
  have C := (ord_at hc hd).mp hcd
  have sC : 0 ≤ at_ c E := at_nonneg h
  have f1 := lm' C (at_nonpos (E := E) h1)
  have f2 := lm C (at_nonneg (E := E) h2)
  have f3 := rm A sC
  have f4 := rm A (Int.le_trans sC C)
  exact ⟨least4 ha hb hc hd h0 ha hd m_ad ⟨by omega, Int.le_refl _, by omega, by omega⟩, great4 ha hb hc hd h0 hb hd m_bd ⟨by omega, by omega, by omega, Int.le_refl _⟩⟩
theorem ends_d (hab : pord a b ≤ 0) (hcd : pord c d ≤ 0) (h1 : a.1 ≤ 0) (h2 : 0 ≤ b.1) (h : d.1 ≤ 0) : IsLeast (pmul b c) (prods a b c d) ∧ IsGreat (pmul a c) (prods a b c d) := by
  obtain ⟨E, ha, hb, hc, hd, h0⟩ := low4 a b c d
  have A := (ord_at ha hb).mp hab
  have C := (ord_at hc hd).mp hcd
  have sD : at_ d E ≤ 0 := at_nonpos h
  have f1 := lm' C (at_nonpos (E := E) h1)
  have f2 := lm C (at_nonneg (E := E) h2)
  have f3 := rm' A sD
  have f4 := rm' A (Int.le_trans C sD)
  exact ⟨least4 ha hb hc hd h0 hb hc m_bc ⟨by omega, by omega, Int.le_refl _, by omega⟩, great4 ha hb hc hd h0 ha hc m_ac ⟨Int.le_refl _, by omega, by omega, by omega⟩⟩
theorem ends_e (hab : pord a b ≤ 0) (hcd : pord c d ≤ 0) (h1 : a.1 ≤ 0) (h2 : 0 ≤ b.1) (h3 : c.1 ≤ 0) (h4 : 0 ≤ d.1) :
    IsLeast (if pord (pmul a d) (pmul b c) ≤ 0 then pmul a d else pmul b c) (prods a b c d) ∧ IsGreat (if 0 ≤ pord (pmul a c) (pmul b d) then pmul a c else pmul b d) (prods a b c d) := by
  obtain ⟨E, ha, hb, hc, hd, h0⟩ := low4 a b c d
  have A := (ord_at ha hb).mp hab
  have C := (ord_at hc hd).mp hcd
  have f1 := lm' C (at_nonpos (E := E) h1)
  have f2 := lm C (at_nonneg (E := E) h2)
  have f3 := rm' A (at_nonpos (E := E) h3)
  have f4 := rm A (at_nonneg (E := E) h4)
  constructor
  · by_cases z : pord (pmul a d) (pmul b c) ≤ 0
    · have z2 := (ord_mul2 ha hd hb hc h0).mp z
      rw [if_pos z]
      exact least4 ha hb hc hd h0 ha hd m_ad ⟨by omega, Int.le_refl _, by omega, by omega⟩
    · have z2 : ¬ at_ a E * at_ d E ≤ at_ b E * at_ c E := fun y => z ((ord_mul2 ha hd hb hc h0).mpr y)
      rw [if_neg z]
      exact least4 ha hb hc hd h0 hb hc m_bc ⟨by omega, by omega, Int.le_refl _, by omega⟩
  · by_cases z : 0 ≤ pord (pmul a c) (pmul b d)
    · have z1 : pord (pmul b d) (pmul a c) ≤ 0 := by rw [pord_swap]; omega
      have z2 := (ord_mul2 hb hd ha hc h0).mp z1
      rw [if_pos z]
      exact great4 ha hb hc hd h0 ha hc m_ac ⟨Int.le_refl _, by omega, by omega, by omega⟩
    · have z1 : pord (pmul a c) (pmul b d) ≤ 0 := by omega
      have z2 := (ord_mul2 ha hc hb hd h0).mp z1
      rw [if_neg z]
      exact great4 ha hb hc hd h0 hb hd m_bd ⟨by omega, by omega, by omega, Int.le_refl _⟩
end
/-! ### parts and choices of numbers -/
section
variable {K : PySem.W.Frag} {σ : L2.St} {H H' : Hp} {ta tb tc te : TE} {n m : Int × Int} {B : Nat}
theorem ev_m (h : EvN K te σ H n B) : Ev (tOp (rIxT K) te (tC (.int 0))) σ H (.int n.1) := fun H1 e Q q =>
  h H1 e _ fun v H2 e2 g => by
    obtain ⟨a, rfl, ha⟩ := g.at_
    exact ⟨a, [.int n.1, .int n.2], 0, .int n.1, rfl, rfl, ha, rfl, q H2 e2⟩
theorem ev_e (h : EvN K te σ H n B) : Ev (tOp (rIxT K) te (tC (.int 1))) σ H (.int n.2) := fun H1 e Q q =>
  h H1 e _ fun v H2 e2 g => by
    obtain ⟨a, rfl, ha⟩ := g.at_
    exact ⟨a, [.int n.1, .int n.2], 1, .int n.2, rfl, rfl, ha, rfl, q H2 e2⟩
theorem evp_if {P : Hp → V → Prop} {t : TT} {b : Bool} (h : EvT t σ H b) (h1 : b = true → EvP P ta σ H) (h2 : b = false → EvP P tb σ H) : EvP P (tIf t ta tb) σ H := fun H1 e Q q => h H1 e _ fun H2 e2 => by
  cases b with
  | true => exact (h1 rfl) H2 (e.trans e2) _ fun v H3 e3 g => q v H3 (e2.trans e3) g
  | false => exact (h2 rfl) H2 (e.trans e2) _ fun v H3 e3 g => q v H3 (e2.trans e3) g
theorem evn_if {t : TT} {p : Prop} [Decidable p] (h : EvT t σ H (decide p)) (h1 : EvN K ta σ H n B) (h2 : EvN K tb σ H m B) : EvN K (tIf t ta tb) σ H (if p then n else m) B := by
  by_cases z : p
  · rw [if_pos z]
    exact evp_if h (fun _ => h1) (fun y => by rw [decide_eq_true z] at y; cases y)
  · rw [if_neg z]
    exact evp_if h (fun y => by rw [decide_eq_false z] at y; cases y) (fun _ => h2)
theorem evn_les (ha : EvN K ta σ H n B) (hb : EvN K tb σ H m B) (l : B ≤ LIM := by decide) : EvN K (tCall (spLes K) [] E0 (tCons ta (tCons tb tNil))) σ H (if pord n m ≤ 0 then n else m) B := fun H1 e Q q =>
  ha H1 e _ fun u H2 e2 gu => hb H2 (e.trans e2) _ fun v H3 e3 gv => ⟨u, v, n, m, rfl, (gu.ex e3).mono l, gv.mono l, fun z H4 e4 => by rw [if_pos z] at q; exact q u H4 ((e2.trans e3).trans e4) ((gu.ex e3).ex e4), fun z H4 e4 => by rw [if_neg (by omega)] at q; exact q v H4 ((e2.trans e3).trans e4) (gv.ex e4)⟩
theorem evn_gre (ha : EvN K ta σ H n B) (hb : EvN K tb σ H m B) (l : B ≤ LIM := by decide) : EvN K (tCall (spGre K) [] E0 (tCons ta (tCons tb tNil))) σ H (if 0 ≤ pord n m then n else m) B := fun H1 e Q q =>
  ha H1 e _ fun u H2 e2 gu => hb H2 (e.trans e2) _ fun v H3 e3 gv => ⟨u, v, n, m, rfl, (gu.ex e3).mono l, gv.mono l, fun z H4 e4 => by rw [if_pos z] at q; exact q u H4 ((e2.trans e3).trans e4) ((gu.ex e3).ex e4), fun z H4 e4 => by rw [if_neg (by omega)] at q; exact q v H4 ((e2.trans e3).trans e4) (gv.ex e4)⟩
end
/-! ### what is known of the class Stretch -/
structure StrC (K : PySem.W.Frag) (mg : Str → Option Value) (C : Addr) : Prop where
  m : mg "Stretch" = some (.ref C)
  cl : Cls K C
  nl : NoAttr K C "low"
  nh : NoAttr K C "high"
  ha : PySem.W.findIn K (.ref C) "__class__" = some (some (.builtin "object.__class__"))
  hn : PySem.W.specialIn K (.builtin "object.__class__") "__get__" = some (some (.builtin "getset_descriptor.__get__"))
  htk : PySem.W.takesIn K (.builtin "object.__class__") = some true
  hm : PySem.W.mroIn K C (.type "object") = some true
structure CalI (P : Program) (w : World) (K : PySem.W.Frag) (mg : Str → Option Value) (base : Heap) (CX : CXT) (k : Nat) (ps : List Str) (sp : Sp) (f : Addr) (fd : FuncData) : Prop where
  ok : FnOk P w K mg base CX k f fd ps sp
  b : Binds K fd ps []
structure CalK (P : Program) (w : World) (K : PySem.W.Frag) (mg : Str → Option Value) (base : Heap) (CX : CXT) (k : Nat) (x : Str) (ps : List Str) (sp : Sp) (f : Addr) (fd : FuncData) : Prop where
  ok : FnOk P w K mg base CX k f fd ps sp
  m : mg x = some (.ref f)
  kp : PySem.W.keepIn K (.ref f) = true
def StrAt (K : PySem.W.Frag) (C : Addr) (B : Nat) (a b : Int × Int) (H : Hp) (v : V) : Prop := ∃ x dx u w, v = .ref x ∧ H x = some (.ins C dx [("low", u), ("high", w)]) ∧ Gn K H u a B ∧ Gn K H w b B
section
variable {K : PySem.W.Frag} {mg : Str → Option Value} {C : Addr} {σ : L2.St} {H H' : Hp} {ta tb tc te : TE} {a b : Int × Int} {B : Nat}
theorem str_mono : Mono (StrAt K C B a b) := fun _ _ _ e ⟨x, dx, u, w, e1, h, g1, g2⟩ => ⟨x, dx, u, w, e1, e _ _ h, g1.ex e, g2.ex e⟩
theorem kit_self : PySem.W.kitOne K (.ref C) (.ref C) = some true := by
  unfold PySem.W.kitOne
  simp
theorem isi_str {v : V} {Q : VK} (S : StrC K mg C) (h : StrAt K C B a b H v) (q : Q (.bl true) H) : rIsi K [v, .ref C] H Q := by
  obtain ⟨x, dx, u, w, rfl, hx, _, _⟩ := h
  exact ⟨.ref x, .ref C, .ref C, .ref C, true, rfl, .own C, .base (.ins hx S.cl S.ha S.hn S.htk S.hm), kit_self, q⟩
theorem ev_isS (S : StrC K mg C) (h : EvP (StrAt K C B a b) ta σ H) : Ev (tCB (rIsi K) (tCons ta (tCons (tC (.ref C)) tNil))) σ H (.bl true) := fun H1 e Q q =>
  h H1 e _ fun v H2 e2 g => isi_str S g (q H2 e2)
theorem evn_low (S : StrC K mg C) (h : EvP (StrAt K C B a b) ta σ H) : EvN K (tFld K ta "low") σ H a B := fun H1 e Q q =>
  h H1 e _ fun v H2 e2 ⟨x, dx, u, w, e1, hx, g1, g2⟩ => ⟨x, C, dx, _, u, e1, hx, S.cl, S.nl, rfl, q u H2 e2 g1⟩
theorem evn_high (S : StrC K mg C) (h : EvP (StrAt K C B a b) ta σ H) : EvN K (tFld K ta "high") σ H b B := fun H1 e Q q =>
  h H1 e _ fun v H2 e2 ⟨x, dx, u, w, e1, hx, g1, g2⟩ => ⟨x, C, dx, _, w, e1, hx, S.cl, S.nh, by rfl, q w H2 e2 g2⟩
theorem evs_var {i : Nat} {v : V} (hv : σ[i]? = some (some v)) (h : StrAt K C B a b H v) : EvP (StrAt K C B a b) (tVar i) σ H := evp_of (ev_var hv) str_mono h
def spInit (K : PySem.W.Frag) (C : Addr) : Sp := fun vs H Q _ => ∃ x dx u v a b, vs = [.ref x, u, v] ∧ H x = some (.ins C dx []) ∧ Gn K H u a LIM ∧ Gn K H v b LIM ∧ pord a b ≤ 0 ∧
  ∀ H', (∀ c o, H c = some o → c ≠ x → H' c = some o) → H' x = some (.ins C dx [("low", u), ("high", v)]) → Q .non H'
theorem evs_make {B1 B2 : Nat} (ha : EvN K ta σ H a B1) (hb : EvN K tb σ H b B2) (l1 : B1 ≤ B) (l2 : B2 ≤ B) (lB : B ≤ LIM) (hle : pord a b ≤ 0) : EvP (StrAt K C B a b) (tMake C (spInit K C) [] E0 (tCons ta (tCons tb tNil))) σ H := fun H1 e Q q =>
  ha H1 e _ fun u H2 e2 gu => hb H2 (e.trans e2) _ fun v H3 e3 gv => fun x dx hx hdx ne => by
    have en : Ex H3 (upd (upd H3 dx (.own x)) x (.ins C dx [])) := fun c o h => by
      rw [upd_ne (ne_of_none h hx), upd_ne (ne_of_none h hdx)]
      exact h
    refine ⟨x, dx, u, v, a, b, rfl, upd_same, ((gu.ex e3).ex en).mono (by omega), (gv.ex en).mono (by omega), hle, fun H' k h' => ⟨rfl, ?_⟩⟩
    have ef : Ex H3 H' := fun c o h => k c o (en c o h) (ne_of_none h hx)
    exact q (.ref x) H' ((e2.trans e3).trans ef) ⟨x, dx, u, v, rfl, h', ((gu.ex e3).ex ef).mono l1, (gv.ex ef).mono l2⟩
theorem o_call {sp : Sp} {dvs : List V} {E : XK} {t : TA} {Q : VK} (h : t σ H fun vs H1 => sp (vs ++ dvs) H1 Q E) : tCall sp dvs E t σ H Q := h
theorem o_itup {tl : TE} {R : It → Hp → Prop} (h : tl σ H fun x H1 => ∃ a, x = .ref a ∧ (∃ xs, SqT K H1 a xs) ∧ R (Itt K a) H1) : iTup K tl σ H R := h
theorem o_op {r : R2} {Q : VK} (h : ta σ H fun x H1 => tb σ H1 fun y H2 => r x y H2 Q) : tOp r ta tb σ H Q := h
theorem o_var {i : Nat} {v : V} {Q : VK} (hv : σ[i]? = some (some v)) (h : Q v H) : tVar i σ H Q := ⟨v, hv, h⟩
theorem o_cons {tr : TA} {Q : List V → Hp → Prop} (h : ta σ H fun x H1 => tr σ H1 fun xs H2 => Q (x :: xs) H2) : tCons ta tr σ H Q := h
/-! ### pairs of numbers -/
def PairAt (K : PySem.W.Frag) (B : Nat) (a b : Int × Int) (H : Hp) (v : V) : Prop := ∃ p x y, v = .ref p ∧ SqT K H p [x, y] ∧ Gn K H x a B ∧ Gn K H y b B
theorem pair_mono : Mono (PairAt K B a b) := fun _ _ _ e ⟨p, x, y, e1, h, g1, g2⟩ => ⟨p, x, y, e1, ex_t e h, g1.ex e, g2.ex e⟩
theorem evn_fst (h : EvP (PairAt K B a b) ta σ H) : EvN K (tOp (rIxT K) ta (tC (.int 0))) σ H a B := fun H1 e Q q =>
  h H1 e _ fun v H2 e2 ⟨p, x, y, e1, hp, g1, g2⟩ => ⟨p, [x, y], 0, x, e1, rfl, hp, rfl, q x H2 e2 g1⟩
theorem evn_snd (h : EvP (PairAt K B a b) ta σ H) : EvN K (tOp (rIxT K) ta (tC (.int 1))) σ H b B := fun H1 e Q q =>
  h H1 e _ fun v H2 e2 ⟨p, x, y, e1, hp, g1, g2⟩ => ⟨p, [x, y], 1, y, e1, rfl, hp, rfl, q y H2 e2 g2⟩
theorem evpair_var {i : Nat} {v : V} (hv : σ[i]? = some (some v)) (h : PairAt K B a b H v) : EvP (PairAt K B a b) (tVar i) σ H := evp_of (ev_var hv) pair_mono h
theorem evpair_mk {B1 B2 : Nat} (ha : EvN K ta σ H a B1) (hb : EvN K tb σ H b B2) (l1 : B1 ≤ B) (l2 : B2 ≤ B) : EvP (PairAt K B a b) (tTup (tCons ta (tCons tb tNil))) σ H := fun H1 e Q q =>
  ha H1 e _ fun u H2 e2 gu => hb H2 (e.trans e2) _ fun v H3 e3 gv => ⟨by show 2 ≤ sizeLine; decide, fun p hp => q (.ref p) _ ((e2.trans e3).trans (Ex.new hp)) ⟨p, u, v, rfl, st_of upd_same, (gu.ex (e3.trans (Ex.new hp))).mono l1, (gv.ex (Ex.new hp)).mono l2⟩⟩
theorem pair_dp2 {v : V} (h : PairAt K B a b H v) : Dp K H v (.tuple [pairD a, pairD b]) := by
  obtain ⟨p, x, y, rfl, hp, g1, g2⟩ := h
  exact .tup hp (.cons (numAt_dp g1.at_) (.cons (numAt_dp g2.at_) .nil))
theorem pair2_lay (a b : Int × Int) : PyData.canLay0 (.tuple [pairD a, pairD b]) = true := rfl
theorem pair2_shaped (a b : Int × Int) : SeqAt.shaped (.tuple [pairD a, pairD b]) = true := rfl
theorem evt_pairs {c d : Int × Int} {B2 : Nat} (h1 : EvP (PairAt K B a b) ta σ H) (h2 : EvP (PairAt K B2 c d) tb σ H) (e1 : a = c) (e2 : b = d) : EvT (tTest (tOp (rNeD K) ta tb)) σ H false := fun H1 e Q q =>
  h1 H1 e _ fun u H2 e3 gu => h2 H2 (e.trans e3) _ fun v H3 e4 gv => by
    subst e1 e2
    refine ⟨_, _, pair_dp2 (pair_mono _ _ _ e4 gu), pair_dp2 gv, pair2_shaped _ _, pair2_shaped _ _, false, ?_, q H3 (e3.trans e4)⟩
    rw [SeqAt.eqv_refl _ (pair2_lay a b)]
    rfl
theorem ev_pairs {c d : Int × Int} {B2 : Nat} (h1 : EvP (PairAt K B a b) ta σ H) (h2 : EvP (PairAt K B2 c d) tb σ H) (e1 : a = c) (e2 : b = d) : Ev (tOp (rEqD K) ta tb) σ H (.bl true) := fun H1 e Q q =>
  h1 H1 e _ fun u H2 e3 gu => h2 H2 (e.trans e3) _ fun v H3 e4 gv => by
    subst e1 e2
    refine ⟨_, _, pair_dp2 (pair_mono _ _ _ e4 gu), pair_dp2 gv, pair2_shaped _ _, pair2_shaped _ _, ?_⟩
    rw [SeqAt.eqv_refl _ (pair2_lay a b)]
    exact q H3 (e3.trans e4)
/-! ### comprehensions: the i-th item of P i -/
def EvLI (P : Nat → Hp → V → Prop) (te : TE) (σ : L2.St) (H : Hp) (n : Nat) : Prop := ∀ H1, Ex H H1 → ∀ Q : VK, (∀ p vs H2, Ex H1 H2 → H1 p = none → H2 p = some (.lst vs) → vs.length = n → (∀ i v, vs[i]? = some v → P i H2 v) → Q (.ref p) H2) → te σ H1 Q
theorem app_at {P : Nat → Hp → V → Prop} {vs : List V} {y : V} (m : ∀ i, Mono (P i)) (e : Ex H H') (h : ∀ i v, vs[i]? = some v → P i H v) (hy : P vs.length H' y) : ∀ i v, (vs ++ [y])[i]? = some v → P i H' v := fun i v hv => by
  by_cases l : i < vs.length
  · rw [List.getElem?_append_left l] at hv
    exact m i _ _ _ e (h i v hv)
  · rw [List.getElem?_append_right (by omega)] at hv
    have e0 : i - vs.length = 0 := by
      rcases Nat.eq_zero_or_pos (i - vs.length) with z | z
      · exact z
      · rw [List.getElem?_eq_none (by simp; omega)] at hv
        cases hv
    rw [e0] at hv
    have e1 : i = vs.length := by omega
    subst e1
    cases (show y = v from Option.some.inj hv)
    exact hy
/-- what an item of the list under way keeps while the list itself grows -/
def Keep1 (P : Nat → Hp → V → Prop) : Prop := ∀ i p ys H H' v, P i H v → H p = some (.lst ys) → Keeps p H H' → P i H' v
theorem app_keep {P : Nat → Hp → V → Prop} {vs : List V} {y : V} {D : Addr} (k1 : Keep1 P) (hD : H D = some (.lst vs)) (h : ∀ i v, vs[i]? = some v → P i H v) (hy : P vs.length H y) : ∀ i v, (vs ++ [y])[i]? = some v → P i (upd H D (.lst (vs ++ [y]))) v := fun i v hv => by
  by_cases l : i < vs.length
  · rw [List.getElem?_append_left l] at hv
    exact k1 i D _ _ _ v (h i v hv) hD keeps_upd
  · rw [List.getElem?_append_right (by omega)] at hv
    have e0 : i - vs.length = 0 := by
      rcases Nat.eq_zero_or_pos (i - vs.length) with z | z
      · exact z
      · rw [List.getElem?_eq_none (by simp; omega)] at hv
        cases hv
    rw [e0] at hv
    have e1 : i = vs.length := by omega
    subst e1
    cases (show y = v from Option.some.inj hv)
    exact k1 _ D _ _ _ _ hy hD keeps_upd
/-- over a tuple | a list whose i-th item is of S i -/
theorem eli_lcT {S P : Nat → Hp → V → Prop} {n : Nat} {vs : List Nat} {g : TG} {tl : TE} (mS : ∀ i, Mono (S i)) (mP : ∀ i, Mono (P i)) (kP : Keep1 P) (hn : n ≤ 50000)
    (h : EvP (fun H v => ∃ p xs, v = .ref p ∧ SqT K H p xs ∧ xs.length = n ∧ ∀ i x, xs[i]? = some x → S i H x) tl σ H)
    (ht : ∀ i x H1, Ex H H1 → S i H1 x → ∃ σ2, (∀ Q : L2.St → Hp → Prop, Q σ2 H1 → g x (wipe σ vs) H1 Q) ∧ wipe σ2 vs = wipe σ vs ∧ EvP (P i) te σ2 H1) : EvLI P (tLc (iTup K tl) g tYes te vs) σ H n := fun H1 e Q q =>
  h H1 e _ fun v H2 e2 ⟨p, xs, e1, hp, hl, hS⟩ => ⟨p, e1, ⟨_, hp⟩, fun D hD => lc_tup (xs := xs) (fun k H' => Ex H2 H' ∧ ∃ ys, H' D = some (.lst ys) ∧ ys.length = k ∧ ∀ i y, ys[i]? = some y → P i H' y) ⟨Ex.new hD, [], upd_same, rfl, fun i y hy => by simp at hy⟩ (fun k H' _ hk => ex_t hk.1 hp)
    (fun k x H' hx hk => by
      obtain ⟨ex, ys, hys, hlen, hall⟩ := hk
      obtain ⟨σ2, hg, hw, he⟩ := ht k x H' ((e.trans e2).trans ex) (mS k _ _ _ ex (hS k x hx))
      refine hg _ ⟨hw, o_yes (iteT ?_)⟩
      refine he H' (Ex.refl H') _ fun y H3 e3 py => ⟨ys, e3 _ _ hys, ?_, (ex.trans e3).mut hD, ys ++ [y], upd_same, ?_, ?_⟩
      · have := (List.getElem?_eq_some_iff.mp hx).1
        exact sz_lt (by omega)
      · rw [List.length_append, hlen]
        rfl
      · subst hlen
        exact app_keep kP (e3 _ _ hys) (fun i z hz => mP i _ _ _ e3 (hall i z hz)) py)
    (fun H' hk => by
      obtain ⟨ex, ys, hys, hlen, hall⟩ := hk
      exact q D ys H' (e2.trans ex) (fresh_back e2 hD) hys (hlen.trans hl) hall)⟩
theorem eli_lcL {S P : Nat → Hp → V → Prop} {n : Nat} {vs : List Nat} {g : TG} {tl : TE} (mS : ∀ i, Mono (S i)) (mP : ∀ i, Mono (P i)) (kP : Keep1 P) (hn : n ≤ 50000)
    (h : EvP (fun H v => ∃ p xs, v = .ref p ∧ SqL K H p xs ∧ xs.length = n ∧ ∀ i x, xs[i]? = some x → S i H x) tl σ H)
    (ht : ∀ i x H1, Ex H H1 → S i H1 x → ∃ σ2, (∀ Q : L2.St → Hp → Prop, Q σ2 H1 → g x (wipe σ vs) H1 Q) ∧ wipe σ2 vs = wipe σ vs ∧ EvP (P i) te σ2 H1) : EvLI P (tLc (iList K tl) g tYes te vs) σ H n := fun H1 e Q q =>
  h H1 e _ fun v H2 e2 ⟨p, xs, e1, hp, hl, hS⟩ => ⟨p, e1, ⟨_, hp⟩, fun D hD => lc_list (xs := xs) (fun k H' => Ex H2 H' ∧ ∃ ys, H' D = some (.lst ys) ∧ ys.length = k ∧ ∀ i y, ys[i]? = some y → P i H' y) ⟨Ex.new hD, [], upd_same, rfl, fun i y hy => by simp at hy⟩ (fun k H' _ hk => ex_l hk.1 hp)
    (fun k x H' hx hk => by
      obtain ⟨ex, ys, hys, hlen, hall⟩ := hk
      obtain ⟨σ2, hg, hw, he⟩ := ht k x H' ((e.trans e2).trans ex) (mS k _ _ _ ex (hS k x hx))
      refine hg _ ⟨hw, o_yes (iteT ?_)⟩
      refine he H' (Ex.refl H') _ fun y H3 e3 py => ⟨ys, e3 _ _ hys, ?_, (ex.trans e3).mut hD, ys ++ [y], upd_same, ?_, ?_⟩
      · have := (List.getElem?_eq_some_iff.mp hx).1
        exact sz_lt (by omega)
      · rw [List.length_append, hlen]
        rfl
      · subst hlen
        exact app_keep kP (e3 _ _ hys) (fun i z hz => mP i _ _ _ e3 (hall i z hz)) py)
    (fun H' hk => by
      obtain ⟨ex, ys, hys, hlen, hall⟩ := hk
      exact q D ys H' (e2.trans ex) (fresh_back e2 hD) hys (hlen.trans hl) hall)⟩
/-- the i-th is the i-th number -/
def NthN (K : PySem.W.Frag) (B : Nat) (ns : List (Int × Int)) (i : Nat) (H : Hp) (v : V) : Prop := ∃ n, ns[i]? = some n ∧ Gn K H v n B
theorem nth_mono {ns : List (Int × Int)} : ∀ i, Mono (NthN K B ns i) := fun _ _ _ _ e ⟨n, h, g⟩ => ⟨n, h, g.ex e⟩
theorem nth_keep {ns : List (Int × Int)} : Keep1 (NthN K B ns) := fun _ _ _ _ _ _ ⟨n, h, g⟩ hp k => ⟨n, h, gn_keep g hp k⟩
theorem nth_gnL : ∀ {vs : List V} {ns : List (Int × Int)}, vs.length = ns.length → (∀ i v, vs[i]? = some v → NthN K B ns i H v) → GnL K H B vs ns
  | [], [], _, _ => trivial
  | v :: vs, n :: ns, hl, h => by
    obtain ⟨m, hm, g⟩ := h 0 v rfl
    have e : n = m := Option.some.inj hm
    subst e
    exact ⟨g, nth_gnL (Nat.succ.inj hl) fun i x hx => h (i + 1) x hx⟩
theorem gnL_nth : ∀ {vs : List V} {ns : List (Int × Int)}, GnL K H B vs ns → ∀ i v, vs[i]? = some v → NthN K B ns i H v
  | [], [], _, i, v, h => by simp at h
  | x :: _, n :: _, g, 0, v, h => by
    have e : x = v := Option.some.inj h
    subst e
    exact ⟨n, rfl, g.1⟩
  | _ :: _, _ :: _, g, i + 1, v, h => gnL_nth g.2 i v h
end
section
variable {K : PySem.W.Frag}
theorem kb_pos {x qual : Str} {params : Arguments} {body : List Stmt} {scope : Scope} {kws : List (Str × V)} {f : Addr} {fd : FuncData} {ps : List Str} (F : FunD K x qual params body scope [] kws f fd) (n : Nat) (ks : List Str)
    (h : ∀ (kV doc pm : Value) (an : Option Addr) (cdv ct : Value) (us ws : List Value), us.length = n → ws.length = ks.length → bindArgs (PySem.W.fnOf x qual params body scope .none kV doc pm an cdv ct) ⟨us, ks.zip ws⟩ = pure (ps.zip (us ++ ws))) : KBn K fd ps n ks (fun us ws => us ++ ws) (fun vs zs => vs ++ zs) := by
  obtain ⟨oc, od, dV, kV, doc, pm, an, cdv, ct, osl, rfl, lk, hcd, hD, hK⟩ := F.ex
  rcases hD with ⟨_, rfl⟩ | ⟨e, _⟩
  · exact ⟨fun s us ws X l1 l2 => .of_eq (h kV doc pm an cdv ct us ws l1 l2), fun r1 r2 => r1.append r2⟩
  · exact absurd rfl e
end
end Onc

namespace Onc
open PySem PySem.Spec PyProof.Rows L2 Evl
/-! ### roots of whole numbers -/
def IsRoot (r n : Int) : Prop := 0 ≤ r ∧ r * r ≤ n ∧ n < (r + 1) * (r + 1)
theorem sq_mono {a b : Int} (h0 : 0 ≤ a) (h : a ≤ b) : a * a ≤ b * b := Int.mul_le_mul h h h0 (by omega)
theorem root_unique {r s n : Int} (h1 : IsRoot r n) (h2 : IsRoot s n) : r = s := by
  obtain ⟨a1, a2, a3⟩ := h1
  obtain ⟨b1, b2, b3⟩ := h2
  rcases Int.lt_trichotomy r s with l | l | l
  · have := sq_mono (a := r + 1) (b := s) (by omega) (by omega)
    omega
  · exact l
  · have := sq_mono (a := s + 1) (b := r) (by omega) (by omega)
    omega
/-- a step of Newton's stays at the root or above it -/
theorem newton_ge {g n : Int} (hg : 0 < g) (hn : 0 ≤ n) : n < ((g + n / g) / 2 + 1) * ((g + n / g) / 2 + 1) := by
  have h1 : n < g * (n / g + 1) := by
    have e := Int.mul_ediv_add_emod n g
    have l := Int.emod_lt_of_pos n hg
    rw [Int.mul_add, Int.mul_one]
    omega
  have k0 : 0 ≤ n / g := Int.ediv_nonneg hn (by omega)
  generalize n / g = k at *
  have h2 : g + k + 1 ≤ 2 * ((g + k) / 2 + 1) := by omega
  generalize (g + k) / 2 + 1 = x at *
  have h3 : (g + k + 1) * (g + k + 1) ≤ (2 * x) * (2 * x) := sq_mono (by omega) h2
  have h4 : 4 * (g * (k + 1)) ≤ (g + k + 1) * (g + k + 1) := by
    have h5 : 0 ≤ (g - (k + 1)) * (g - (k + 1)) := by
      rcases Int.le_total 0 (g - (k + 1)) with z | z
      · exact Int.mul_nonneg z z
      · have := Int.mul_nonneg (show 0 ≤ -(g - (k + 1)) by omega) (show 0 ≤ -(g - (k + 1)) by omega)
        rw [Int.neg_mul_neg] at this
        exact this
    have e1 : (g + k + 1) * (g + k + 1) = (g - (k + 1)) * (g - (k + 1)) + 4 * (g * (k + 1)) := by
      have e2 : g + k + 1 = g + (k + 1) := by omega
      rw [e2]
      generalize k + 1 = y
      rw [Int.sub_mul, Int.mul_sub, Int.mul_sub, Int.add_mul, Int.mul_add, Int.mul_add, Int.mul_comm y g]
      omega
    omega
  have e3 : (2 * x) * (2 * x) = 4 * (x * x) := by
    rw [Int.mul_assoc, Int.mul_left_comm x 2 x]
    omega
  omega
theorem newton_end {g n : Int} (hg : 0 < g) (hn : 0 ≤ n) (h : ¬ (g + n / g) / 2 < g) : g * g ≤ n := by
  have h1 : g ≤ n / g := by omega
  have h2 : g * g ≤ g * (n / g) := Int.mul_le_mul_of_nonneg_left h1 (by omega)
  have e := Int.mul_ediv_add_emod n g
  have l := Int.emod_nonneg n (show g ≠ 0 by omega)
  omega
theorem newton_pos {g n : Int} (hg : 0 < g) (hn : 0 < n) : 0 < (g + n / g) / 2 := by
  have h := newton_ge hg (show 0 ≤ n by omega)
  have k0 : 0 ≤ n / g := Int.ediv_nonneg (by omega) (by omega)
  have h0 : 0 ≤ (g + n / g) / 2 := by omega
  rcases Int.lt_or_eq_of_le h0 with z | z
  · exact z
  · rw [← z] at h
    omega
/-- the first guess -/
theorem guess_ge {n : Int} (hn : 0 < n) : n < (2 ^ ((Builtin.Int.intBits n + 1) / 2) + 1 : Int) * (2 ^ ((Builtin.Int.intBits n + 1) / 2) + 1) := by
  have hb : n.natAbs < 2 ^ Builtin.Int.intBits n := by
    rw [bits_of (by omega)]
    exact Nat.lt_log2_self
  have h1 : (2 : Nat) ^ Builtin.Int.intBits n ≤ 2 ^ ((Builtin.Int.intBits n + 1) / 2) * 2 ^ ((Builtin.Int.intBits n + 1) / 2) := by
    rw [← Nat.pow_add]
    exact Nat.pow_le_pow_right (by decide) (by omega)
  have h2 : n < ((2 ^ ((Builtin.Int.intBits n + 1) / 2) * 2 ^ ((Builtin.Int.intBits n + 1) / 2) : Nat) : Int) := by omega
  rw [Int.natCast_mul, pow_two_cast] at h2
  have hp := pow_pos2 ((Builtin.Int.intBits n + 1) / 2)
  generalize (2 : Int) ^ ((Builtin.Int.intBits n + 1) / 2) = y at *
  have e : (y + 1) * (y + 1) = y * y + 2 * y + 1 := by
    rw [Int.add_mul, Int.mul_add]
    omega
  omega
theorem root_exists (n : Nat) : ∃ r : Int, IsRoot r n := by
  induction n with
  | zero => exact ⟨0, by decide, by decide, by decide⟩
  | succ n ih =>
    obtain ⟨r, h0, h1, h2⟩ := ih
    by_cases h : ((n + 1 : Nat) : Int) < (r + 1) * (r + 1)
    · exact ⟨r, h0, by omega, h⟩
    · refine ⟨r + 1, by omega, by omega, ?_⟩
      have e : (r + 1 + 1) * (r + 1 + 1) = (r + 1) * (r + 1) + 2 * (r + 1) + 1 := by
        rw [Int.add_mul (r + 1) 1, Int.mul_add (r + 1) (r + 1) 1]
        omega
      rw [e]
      omega
/-- the greatest whole number whose square is no greater -/
noncomputable def froot (n : Int) : Int := Classical.choose (root_exists n.toNat)
theorem froot_spec {n : Int} (h : 0 ≤ n) : IsRoot (froot n) n := by
  have h1 : IsRoot (froot n) ((n.toNat : Nat) : Int) := Classical.choose_spec (root_exists n.toNat)
  have e : ((n.toNat : Nat) : Int) = n := Int.toNat_of_nonneg h
  rw [e] at h1
  exact h1
theorem froot_of {r n : Int} (h : IsRoot r n) : froot n = r := by
  have h0 : 0 ≤ n := by
    have := Int.mul_nonneg h.1 h.1
    have := h.2.1
    omega
  exact root_unique (froot_spec h0) h
/-- the least whole number whose square is no less -/
noncomputable def croot (n : Int) : Int := if froot n * froot n = n then froot n else froot n + 1
/-! ### whole numbers at a power -/
def fl (n : Int × Int) (E : Int) : Int := if E ≤ n.2 then n.1 * 2 ^ (n.2 - E).toNat else n.1 / 2 ^ (E - n.2).toNat
def cl (n : Int × Int) (E : Int) : Int := -fl (pneg n) E
theorem fl_nn {n : Int × Int} (h : 0 ≤ n.1) (E : Int) : 0 ≤ fl n E := by
  unfold fl
  by_cases l : E ≤ n.2
  · rw [if_pos l]
    exact Int.mul_nonneg h (Int.le_of_lt (pow_pos2 _))
  · rw [if_neg l]
    exact Int.ediv_nonneg h (Int.le_of_lt (pow_pos2 _))
/-! ### quotients -/
def fq (a b : Int × Int) (bits : Int) : Int := if a.2 - b.2 + bits < 0 then a.1.fdiv (b.1 * 2 ^ (-(a.2 - b.2 + bits)).toNat) else (a.1 * 2 ^ (a.2 - b.2 + bits).toNat).fdiv b.1
section
variable {X : Cx}
def CDivZ (_ j : Int) : Prop := j ≠ 0 ∧ j.natAbs.log2 < 9000
/-- // by any divisor but 0 below 2 ^ 9000 -/
theorem op_fdivZ : OpR X (binaryOp .FloorDiv) (rI CDivZ fun i j => .int (i.fdiv j)) := opI fun _ _ _ _ _ _ _ hc q => floordiv_int hc.1 q (.inl (PyProof.noPylong_of_log2 hc.2))
end
theorem divz_ok {i j : Int} {k : Nat} (h : j ≠ 0) (hb : j.natAbs < 2 ^ k) (hk : k ≤ 9000) : CDivZ i j := by
  refine ⟨h, ?_⟩
  by_cases h0 : k = 0
  · subst h0
    have : j.natAbs < 1 := hb
    omega
  · exact Nat.lt_of_lt_of_le (PySem.Flt.log2_lt_of (by omega) hb) hk
theorem fdiv_flip (x y : Int) : (-x).fdiv (-y) = x.fdiv y := Int.neg_fdiv_neg x y
theorem fdiv_pos_sum {x y : Int} (h : 0 < y) : x.fdiv y + (-x).fdiv y ≤ 0 := by
  rw [Int.fdiv_eq_ediv_of_nonneg x (by omega), Int.fdiv_eq_ediv_of_nonneg (-x) (by omega)]
  have h1 := Int.ediv_mul_le x (show y ≠ 0 by omega)
  have h2 := Int.ediv_mul_le (-x) (show y ≠ 0 by omega)
  have h3 : (x / y + -x / y) * y ≤ 0 := by
    rw [Int.add_mul]
    omega
  rcases Int.lt_or_le 0 (x / y + -x / y) with z | z
  · have := Int.mul_pos z h
    omega
  · exact z
theorem fdiv_sum {x y : Int} (h : y ≠ 0) : x.fdiv y + (-x).fdiv y ≤ 0 := by
  rcases Int.lt_trichotomy y 0 with z | z | z
  · have h1 := fdiv_pos_sum (x := x) (y := -y) (by omega)
    rw [← fdiv_flip x y, ← fdiv_flip (-x) y, Int.neg_neg]
    omega
  · exact absurd z h
  · exact fdiv_pos_sum z
theorem fq_neg {a b : Int × Int} {bits : Int} : fq (pneg a) (pneg b) bits = fq a b bits := by
  unfold fq pneg
  simp only
  rw [Int.neg_mul, Int.neg_mul, fdiv_flip, fdiv_flip]
theorem fq_le {a b : Int × Int} {bits : Int} (h : b.1 ≠ 0) : fq a b bits ≤ -fq (pneg a) b bits := by
  unfold fq pneg
  simp only
  by_cases l : a.2 - b.2 + bits < 0
  · rw [if_pos l, if_pos l]
    have := fdiv_sum (x := a.1) (y := b.1 * 2 ^ (-(a.2 - b.2 + bits)).toNat) (fun z => (Int.mul_eq_zero.mp z).elim h (Int.ne_of_gt (pow_pos2 _)))
    omega
  · rw [if_neg l, if_neg l]
    have := fdiv_sum (x := a.1 * 2 ^ (a.2 - b.2 + bits).toNat) (y := b.1) h
    rw [← Int.neg_mul] at this
    omega
theorem nrm_ord {x y E : Int} (hE : E ≤ 0) (h : x ≤ y) : pord (nrm x E) (nrm y E) ≤ 0 := by
  rw [pord_at (nrm_le hE) (nrm_le hE), at_same, at_same]
  rcases sgn_cases (x - y) with q | q | q
  · have := sgn_of_pos q
    omega
  · omega
  · omega
/-! ### roots told twice -/
theorem cl_nn {n : Int × Int} (h : 0 ≤ n.1) (E : Int) : 0 ≤ cl n E := by
  unfold cl fl pneg
  simp only
  by_cases l : E ≤ n.2
  · rw [if_pos l, Int.neg_mul, Int.neg_neg]
    exact Int.mul_nonneg h (Int.le_of_lt (pow_pos2 _))
  · rw [if_neg l]
    have hp := pow_pos2 (E - n.2).toNat
    have := Int.ediv_le_ediv (c := 2 ^ (E - n.2).toNat) hp (show -n.1 ≤ 0 by omega)
    rw [Int.zero_ediv] at this
    omega
theorem croot_of {r x : Int} (h0 : 0 ≤ r) (h1 : r * r < x) (h2 : x ≤ (r + 1) * (r + 1)) : croot x = r + 1 := by
  unfold croot
  rcases Int.lt_or_eq_of_le h2 with z | z
  · rw [froot_of (r := r) ⟨h0, by omega, z⟩, if_neg (by omega)]
  · have e : (r + 1 + 1) * (r + 1 + 1) = (r + 1) * (r + 1) + 2 * (r + 1) + 1 := by
      rw [Int.add_mul (r + 1) 1, Int.mul_add (r + 1) (r + 1) 1]
      omega
    rw [froot_of (r := r + 1) ⟨by omega, by omega, by omega⟩, if_pos z.symm]
theorem croot_sq {r : Int} (h0 : 0 ≤ r) : croot (r * r) = r := by
  unfold croot
  have e : (r + 1) * (r + 1) = r * r + 2 * r + 1 := by
    rw [Int.add_mul, Int.mul_add]
    omega
  rw [froot_of (r := r) ⟨h0, by omega, by omega⟩, if_pos rfl]
/-- m by 2 ** k, m from 0 on: the root below and what is more -/
theorem croot_shift {m : Int} {k : Nat} (h : 0 ≤ m) : croot (-(-m / 2 ^ k)) = froot (m / 2 ^ k) + (if froot (m / 2 ^ k) * froot (m / 2 ^ k) * 2 ^ k < m then 1 else 0) := by
  have hp := pow_pos2 k
  have hf : 0 ≤ m / 2 ^ k := Int.ediv_nonneg h (by omega)
  obtain ⟨r0, r1, r2⟩ := froot_spec hf
  have d1 := Int.mul_ediv_add_emod m (2 ^ k)
  have d2 := Int.emod_nonneg m (show (2 : Int) ^ k ≠ 0 by omega)
  have d3 := Int.emod_lt_of_pos m hp
  have c1 := Int.mul_ediv_add_emod (-m) (2 ^ k)
  have c2 := Int.emod_nonneg (-m) (show (2 : Int) ^ k ≠ 0 by omega)
  have c3 := Int.emod_lt_of_pos (-m) hp
  generalize hy : (2 : Int) ^ k = y at *
  generalize m / y = q at *
  generalize m % y = t at *
  generalize -m / y = p at *
  generalize -m % y = u at *
  generalize froot q = r at *
  have e0 : y * (q + p) = -(t + u) := by
    rw [Int.mul_add]
    omega
  by_cases hlt : r * r * y < m
  · rw [if_pos hlt]
    refine croot_of r0 ?_ ?_
    · rcases Int.lt_or_le (r * r) (-p) with z | z
      · exact z
      · have h1 : y * (-p) ≤ y * (r * r) := Int.mul_le_mul_of_nonneg_left z (by omega)
        rw [Int.mul_neg, Int.mul_comm y (r * r)] at h1
        omega
    · have h1 : -p ≤ q + 1 := by
        rcases Int.lt_or_le (q + 1) (-p) with z | z
        · have h2 : y * (q + p) ≤ y * (-2) := Int.mul_le_mul_of_nonneg_left (by omega) (by omega)
          omega
        · exact z
      omega
  · rw [if_neg hlt, Int.add_zero]
    have h1 : r * r * y ≤ q * y := Int.mul_le_mul_of_nonneg_right r1 (by omega)
    rw [Int.mul_comm q y] at h1
    have t0 : t = 0 := by omega
    have e1 : y * q = m := by omega
    have e2 : y * (r * r) = y * q := by
      rw [Int.mul_comm y (r * r)]
      omega
    have e3 : r * r = q := Int.eq_of_mul_eq_mul_left (by omega) e2
    have e4 : y * (-p) = y * q + u := by
      rw [Int.mul_neg]
      omega
    have e5 : -p = q := by
      rcases Int.lt_trichotomy (-p) q with z | z | z
      · have h2 : y * (-p) ≤ y * (q - 1) := Int.mul_le_mul_of_nonneg_left (by omega) (by omega)
        rw [Int.mul_sub] at h2
        omega
      · exact z
      · have h2 : y * (q + 1) ≤ y * (-p) := Int.mul_le_mul_of_nonneg_left (by omega) (by omega)
        rw [Int.mul_add] at h2
        omega
    rw [e5, ← e3]
    exact croot_sq r0
theorem croot_plain {x : Int} (h : 0 ≤ x) : croot x = froot x + (if froot x * froot x < x then 1 else 0) := by
  have hr := froot_spec h
  unfold croot
  by_cases z : froot x * froot x = x
  · rw [if_pos z, if_neg (by omega), Int.add_zero]
  · rw [if_neg z, if_pos (by have := hr.2.1; omega)]
def spWithin (K : PySem.W.Frag) : Sp := fun vs H Q _ => ∃ i l m : Int, vs = [.int i, .int l, .int m] ∧ Q (.bl (decide (l ≤ i) && decide (i ≤ m))) H
def spNeedW (K : PySem.W.Frag) : Sp := fun vs H Q _ => ∃ i l m : Int, vs = [.int i, .int l, .int m] ∧ l ≤ i ∧ i ≤ m ∧ Q .non H
def spFRoot : Sp := fun vs H Q _ => ∃ n : Int, vs = [.int n] ∧ 0 ≤ n ∧ n.natAbs < 2 ^ 8000 ∧ ∀ H', Ex H H' → Q (.int (froot n)) H'
def spCRoot : Sp := fun vs H Q _ => ∃ n : Int, vs = [.int n] ∧ 0 ≤ n ∧ n.natAbs < 2 ^ 8000 ∧ ∀ H', Ex H H' → Q (.int (croot n)) H'
def spFloorG (K : PySem.W.Frag) : Sp := fun vs H Q _ => ∃ v n E, vs = [v, .int E] ∧ NumAt K H v n ∧ Bd n LIM ∧ E.natAbs ≤ LIM ∧ Q (.int (fl n E)) H
def spCeilG (K : PySem.W.Frag) : Sp := fun vs H Q _ => ∃ v n E, vs = [v, .int E] ∧ NumAt K H v n ∧ Bd n LIM ∧ E.natAbs ≤ LIM ∧ ∀ H', Ex H H' → Q (.int (cl n E)) H'
def spQuo (K : PySem.W.Frag) : Sp := fun vs H Q _ => ∃ u v a b, ∃ bits : Int, vs = [u, v, .int bits] ∧ NumAt K H u a ∧ NumAt K H v b ∧ Bd a 3000 ∧ Bd b 3000 ∧ b.1 ≠ 0 ∧ 0 ≤ bits ∧ bits ≤ 800 ∧ Q (.int (fq a b bits)) H
/-! ### lists of whole numbers -/
def IsMin (m : Int) (l : List Int) : Prop := m ∈ l ∧ ∀ y, y ∈ l → m ≤ y
def IsMax (m : Int) (l : List Int) : Prop := m ∈ l ∧ ∀ y, y ∈ l → y ≤ m
theorem min_unique {m n : Int} {l : List Int} (h1 : IsMin m l) (h2 : IsMin n l) : m = n := by
  have := h1.2 n h2.1
  have := h2.2 m h1.1
  omega
theorem max_unique {m n : Int} {l : List Int} (h1 : IsMax m l) (h2 : IsMax n l) : m = n := by
  have := h1.2 n h2.1
  have := h2.2 m h1.1
  omega
def NthI (ls : List Int) (i : Nat) (_ : Hp) (v : V) : Prop := ∃ x, ls[i]? = some x ∧ v = .int x
theorem nthI_mono {ls : List Int} : ∀ i, Mono (NthI ls i) := fun _ _ _ _ _ h => h
theorem nthI_keep {ls : List Int} : Keep1 (NthI ls) := fun _ _ _ _ _ _ h _ _ => h
theorem nth_ints : ∀ {vs : List V} {ls : List Int} {H : Hp}, vs.length = ls.length → (∀ i v, vs[i]? = some v → NthI ls i H v) → vs = ls.map V.int
  | [], [], _, _, _ => rfl
  | v :: vs, x :: ls, H, hl, h => by
    obtain ⟨y, hy, e⟩ := h 0 v rfl
    have e1 : x = y := Option.some.inj hy
    rw [e, e1, List.map_cons, nth_ints (H := H) (Nat.succ.inj hl) fun i w hw => h (i + 1) w hw]
def IP (S : Int → Prop) (_ : Hp) (v : V) : Prop := ∃ m, v = .int m ∧ S m
section
variable {K : PySem.W.Frag} {σ : L2.St} {H : Hp} {tl ta tb : TE} {ls : List Int} {n : Nat}
theorem evp_min (h : EvLI (NthI ls) tl σ H n) (hn : n = ls.length) (h0 : 0 < n) : EvP (IP fun m => IsMin m ls) (tCB (rMin K) (tCons tl tNil)) σ H := fun H1 e Q q =>
  h H1 e _ fun p vs H2 e2 _ hp hl hall => ⟨p, ls, rfl, by rw [← nth_ints (hl.trans hn) hall]; exact sq_of hp, by omega, fun m hm hy => q _ H2 e2 ⟨m, rfl, hm, hy⟩⟩
theorem evp_max (h : EvLI (NthI ls) tl σ H n) (hn : n = ls.length) (h0 : 0 < n) : EvP (IP fun m => IsMax m ls) (tCB (rMax K) (tCons tl tNil)) σ H := fun H1 e Q q =>
  h H1 e _ fun p vs H2 e2 _ hp hl hall => ⟨p, ls, rfl, by rw [← nth_ints (hl.trans hn) hall]; exact sq_of hp, by omega, fun m hm hy => q _ H2 e2 ⟨m, rfl, hm, hy⟩⟩
end
theorem fdiv_abs (x y : Int) : (x.fdiv y).natAbs ≤ x.natAbs := by
  rcases Int.lt_or_le y 0 with z | z
  · rw [← fdiv_flip, Int.fdiv_eq_ediv_of_nonneg (-x) (by omega)]
    have := Int.natAbs_ediv_le_natAbs (-x) (-y)
    omega
  · rw [Int.fdiv_eq_ediv_of_nonneg x z]
    exact Int.natAbs_ediv_le_natAbs x y
theorem fq_abs {a b : Int × Int} {bits : Int} (ha : Bd a 2300) (hb : Bd b 2300) (h0 : 0 ≤ bits) (h8 : bits ≤ 800) : (fq a b bits).natAbs < 2 ^ 7800 := by
  have a2 := ha.2
  have b2 := hb.2
  unfold fq
  by_cases l : a.2 - b.2 + bits < 0
  · rw [if_pos l]
    exact Nat.lt_of_le_of_lt (fdiv_abs _ _) (Nat.lt_of_lt_of_le ha.1 (Nat.pow_le_pow_right (by decide) (by decide)))
  · rw [if_neg l]
    refine Nat.lt_of_le_of_lt (fdiv_abs _ _) ?_
    have e2 : ((2 : Int) ^ (a.2 - b.2 + bits).toNat).natAbs = 2 ^ (a.2 - b.2 + bits).toNat := by
      rw [← pow_two_cast]
      rfl
    rw [Int.natAbs_mul, e2]
    refine Nat.lt_of_lt_of_le (Nat.mul_lt_mul_of_pos_right ha.1 (Nat.pow_pos (by decide))) ?_
    rw [← Nat.pow_add]
    exact Nat.pow_le_pow_right (by decide) (by omega)
theorem fl_at {n : Int × Int} {E F : Int} (h1 : F ≤ n.2) (h2 : F ≤ E) : fl n E = at_ n F / 2 ^ (E - F).toNat := by
  unfold fl
  by_cases l : E ≤ n.2
  · rw [if_pos l, at_split (E := F) (M := E) h2 l, Int.mul_ediv_cancel _ (Int.ne_of_gt (pow_pos2 _))]
    rfl
  · rw [if_neg l]
    unfold at_
    rw [show (E - F).toNat = (E - n.2).toNat + (n.2 - F).toNat by omega, Int.pow_add, Int.mul_ediv_mul_of_pos_left _ _ (pow_pos2 _)]
theorem fl_le_cl {a b : Int × Int} {E : Int} (h : pord a b ≤ 0) : fl a E ≤ cl b E := by
  have l1 : min (min a.2 b.2) E ≤ a.2 := by omega
  have l2 : min (min a.2 b.2) E ≤ b.2 := by omega
  have l3 : min (min a.2 b.2) E ≤ E := by omega
  generalize min (min a.2 b.2) E = F at *
  unfold cl
  rw [fl_at l1 l3, fl_at (n := pneg b) l2 l3, at_neg]
  rw [pord_at l1 l2] at h
  have hab := sgn_le h
  have hp := pow_pos2 (E - F).toNat
  generalize (2 : Int) ^ (E - F).toNat = y at *
  have h1 : at_ a F / y ≤ at_ b F / y := Int.ediv_le_ediv hp (by omega)
  have h2 := fdiv_pos_sum (x := at_ b F) hp
  rw [Int.fdiv_eq_ediv_of_nonneg _ (by omega), Int.fdiv_eq_ediv_of_nonneg _ (by omega)] at h2
  omega
theorem froot_mono {x y : Int} (h0 : 0 ≤ x) (h : x ≤ y) : froot x ≤ froot y := by
  have a := froot_spec h0
  have b := froot_spec (show 0 ≤ y by omega)
  rcases Int.lt_or_le (froot y) (froot x) with z | z
  · have := sq_mono (a := froot y + 1) (b := froot x) (by have := b.1; omega) (by omega)
    have := a.2.1
    have := b.2.2
    omega
  · exact z
theorem froot_le_croot {x y : Int} (h0 : 0 ≤ x) (h : x ≤ y) : froot x ≤ croot y := by
  have := froot_mono h0 h
  unfold croot
  by_cases z : froot y * froot y = y
  · rw [if_pos z]
    exact this
  · rw [if_neg z]
    omega
theorem froot_abs {n : Int} {k : Nat} (h0 : 0 ≤ n) (hb : n.natAbs < 2 ^ k) : (froot n).natAbs < 2 ^ k := by
  have hr := froot_spec h0
  by_cases z : froot n ≤ n
  · have := hr.1
    omega
  · have := hr.2.1
    have h1 := hr.1
    have h3 : froot n * 1 ≤ froot n * froot n := Int.mul_le_mul_of_nonneg_left (by omega) h1
    omega
theorem croot_abs {n : Int} {k : Nat} (h0 : 0 ≤ n) (hb : n.natAbs < 2 ^ k) : (croot n).natAbs < 2 ^ (k + 1) := by
  have h1 := froot_abs h0 hb
  have h2 := (froot_spec h0).1
  have e : 2 ^ (k + 1) = 2 ^ k * 2 := Nat.pow_succ ..
  have hp : 0 < 2 ^ k := Nat.pow_pos (by decide)
  unfold croot
  by_cases z : froot n * froot n = n
  · rw [if_pos z]
    omega
  · rw [if_neg z]
    omega
theorem fl_abs {n : Int × Int} {E : Int} (h : Bd n 2300) (hE : E.natAbs ≤ 1600) : (fl n E).natAbs < 2 ^ 6300 := by
  have h2 := h.2
  unfold fl
  by_cases l : E ≤ n.2
  · rw [if_pos l]
    have e2 : ((2 : Int) ^ (n.2 - E).toNat).natAbs = 2 ^ (n.2 - E).toNat := by
      rw [← pow_two_cast]
      rfl
    rw [Int.natAbs_mul, e2]
    refine Nat.lt_of_lt_of_le (Nat.mul_lt_mul_of_pos_right h.1 (Nat.pow_pos (by decide))) ?_
    rw [← Nat.pow_add]
    exact Nat.pow_le_pow_right (by decide) (by omega)
  · rw [if_neg l]
    exact Nat.lt_of_le_of_lt (Int.natAbs_ediv_le_natAbs _ _) (Nat.lt_of_lt_of_le h.1 (Nat.pow_le_pow_right (by decide) (by decide)))
theorem cl_abs {n : Int × Int} {E : Int} (h : Bd n 2300) (hE : E.natAbs ≤ 1600) : (cl n E).natAbs < 2 ^ 6300 := by
  unfold cl
  rw [Int.natAbs_neg]
  exact fl_abs (bd_neg h) hE
/-! ### roots by doubling the bits -/
theorem sq_nonneg (x : Int) : 0 ≤ x * x := by
  rcases Int.le_total 0 x with h | h
  · exact Int.mul_nonneg h h
  · exact Int.mul_nonneg_of_nonpos_of_nonpos h h
/-- one step: t the half of the guess, w its doubt -/
theorem dbl_low {t w m q : Int} (ht : 0 < t) (hw : 0 ≤ w) (h1 : (2 * t - w) * (2 * t - w) < m) (h2 : m < (2 * t + w) * (2 * t + w)) (hwt : w * w ≤ 4 * t) (hq : 4 * t * q ≤ m) (hy : 0 ≤ t + q - 1) : (t + q - 1) * (t + q - 1) < m := by
  refine Decidable.byContradiction fun hc => ?_
  have hc : m ≤ (t + q - 1) * (t + q - 1) := by omega
  obtain ⟨y, hyd⟩ : ∃ y, y = t + q - 1 := ⟨_, rfl⟩
  rw [← hyd] at hc hy
  have hq' : 4 * t * q = 4 * (t * y) - 4 * (t * t) + 4 * t := by
    have : q = y - t + 1 := by omega
    rw [this, Int.mul_add, Int.mul_sub, Int.mul_assoc, Int.mul_assoc]
    omega
  rcases Int.lt_or_le y (2 * t + w) with a | a
  · rcases Int.lt_or_le (2 * t - w) y with b | b
    · -- within the doubt
      have e : (2 * t - y) * (2 * t - y) < w * w := by
        have n1 : 0 ≤ w - (2 * t - y) := by omega
        have n2 : 0 ≤ w + (2 * t - y) := by omega
        rcases Int.lt_or_le 0 w with z | z
        · have n3 : 0 < w - (2 * t - y) := by omega
          have n4 : 0 < w + (2 * t - y) := by omega
          have := Int.mul_pos n3 n4
          rw [Int.sub_mul, Int.mul_add, Int.mul_add, Int.mul_comm w (2 * t - y)] at this
          omega
        · omega
      have e2 : (2 * t - y) * (2 * t - y) = 4 * (t * t) - 4 * (t * y) + y * y := by
        rw [Int.sub_mul, Int.mul_sub, Int.mul_sub, Int.mul_comm y (2 * t), Int.mul_assoc, Int.mul_assoc, Int.mul_left_comm t 2 t]
        omega
      omega
    · have := sq_mono hy b
      omega
  · have e : (2 * t + w) * (2 * t + w) = 4 * (t * t) + 4 * (t * w) + w * w := by
      rw [Int.add_mul, Int.mul_add, Int.mul_add, Int.mul_comm w (2 * t), Int.mul_assoc, Int.mul_assoc, Int.mul_left_comm t 2 t]
      omega
    have e3 : t * (2 * t + w) ≤ t * y := Int.mul_le_mul_of_nonneg_left a (by omega)
    rw [Int.mul_add, Int.mul_left_comm t 2 t] at e3
    omega
theorem dbl_high {t m q : Int} (hq : m < 4 * t * (q + 1)) : m < (t + q + 1) * (t + q + 1) := by
  have e : (t + q + 1) * (t + q + 1) - 4 * t * (q + 1) = (t - (q + 1)) * (t - (q + 1)) := by
    rw [Int.add_assoc t q 1]
    generalize q + 1 = r
    rw [Int.add_mul, Int.mul_add, Int.mul_add, Int.sub_mul, Int.mul_sub, Int.mul_sub, Int.mul_assoc, Int.mul_comm r t]
    omega
  have := sq_nonneg (t - (q + 1))
  omega
/-- what is known of the root of the first bits -/
def Near (a n : Int) (c d : Nat) : Prop := 0 < a ∧ (a - 1) * (a - 1) < n / 2 ^ (2 * (c - d)) ∧ n / 2 ^ (2 * (c - d)) < (a + 1) * (a + 1)
theorem pow_sq (k : Nat) : (2 : Int) ^ (2 * k) = 2 ^ k * 2 ^ k := by rw [Nat.two_mul, Int.pow_add]
theorem near_ge {a n : Int} {c d : Nat} (hd : d ≤ c) (hn : 2 ^ (2 * c) ≤ n) (h : Near a n c d) : (2 : Int) ^ d ≤ a := by
  obtain ⟨h0, _, h2⟩ := h
  have e1 : (2 : Int) ^ (2 * d) ≤ n / 2 ^ (2 * (c - d)) := by
    refine (Int.le_ediv_iff_mul_le (pow_pos2 _)).mpr ?_
    rw [← Int.pow_add, show 2 * d + 2 * (c - d) = 2 * c by omega]
    exact hn
  rw [pow_sq] at e1
  refine Decidable.byContradiction fun z => ?_
  have := sq_mono (a := a + 1) (b := 2 ^ d) (by omega) (by omega)
  omega
theorem near_step {a n : Int} {c e d : Nat} (hn : 2 ^ (2 * c) ≤ n) (hdc : d ≤ c) (h1 : e < d) (h2 : d ≤ 2 * e + 1) (h : Near a n c e) :
    Near (a * 2 ^ (d - e - 1) + (n / 2 ^ (2 * c - e - d + 1)) / a) n c d := by
  have hA := near_ge (by omega) hn h
  obtain ⟨h0, hl, hh⟩ := h
  obtain ⟨m, hm⟩ : ∃ m, m = n / 2 ^ (2 * (c - d)) := ⟨_, rfl⟩
  obtain ⟨t, ht⟩ : ∃ t, t = a * 2 ^ (d - e - 1) := ⟨_, rfl⟩
  obtain ⟨w, hw⟩ : ∃ w : Int, w = 2 ^ (d - e) := ⟨_, rfl⟩
  have t0 : 0 < t := by rw [ht]; exact Int.mul_pos h0 (pow_pos2 _)
  have w0 : 0 < w := by rw [hw]; exact pow_pos2 _
  have hw1 : w = 2 ^ (d - e - 1) * 2 := by
    rw [hw, ← Int.pow_succ]
    congr 1
    omega
  have e2t : 2 * t = a * w := by
    rw [ht, hw1, Int.mul_comm _ (2 : Int), Int.mul_left_comm a 2]
  have em : n / 2 ^ (2 * (c - e)) = m / (w * w) := by
    rw [hm, hw, ← pow_sq, Int.ediv_ediv_of_nonneg (Int.le_of_lt (pow_pos2 _)), ← Int.pow_add, show 2 * (c - d) + 2 * (d - e) = 2 * (c - e) by omega]
  have eq : (n / 2 ^ (2 * c - e - d + 1)) / a = m / (4 * t) := by
    have : n / 2 ^ (2 * c - e - d + 1) = m / 2 ^ (d - e + 1) := by
      rw [hm, Int.ediv_ediv_of_nonneg (Int.le_of_lt (pow_pos2 _)), ← Int.pow_add, show 2 * (c - d) + (d - e + 1) = 2 * c - e - d + 1 by omega]
    rw [this, Int.ediv_ediv_of_nonneg (Int.le_of_lt (pow_pos2 _))]
    congr 1
    have e4 : 4 * t = 2 * (a * w) := by omega
    rw [e4, hw, Int.pow_succ, Int.mul_comm a, ← Int.mul_assoc 2, Int.mul_comm 2]
  rw [em] at hl hh
  rw [eq, ← ht]
  unfold Near
  rw [← hm]
  have ww : 0 < w * w := Int.mul_pos w0 w0
  have m0 : 0 ≤ m := by
    rw [hm]
    exact Int.ediv_nonneg (Int.le_trans (Int.le_of_lt (pow_pos2 _)) hn) (Int.le_of_lt (pow_pos2 _))
  have q0 : 0 ≤ m / (4 * t) := Int.ediv_nonneg m0 (by omega)
  refine ⟨by omega, ?_, ?_⟩
  · refine dbl_low t0 (by omega) (w := w) ?_ ?_ ?_ (Int.mul_ediv_self_le (by omega)) (by omega)
    · have l1 : (a - 1) * (a - 1) + 1 ≤ m / (w * w) := hl
      have l2 := (Int.le_ediv_iff_mul_le ww).mp l1
      have l3 : (2 * t - w) * (2 * t - w) = (a - 1) * (a - 1) * (w * w) := by
        have : 2 * t - w = (a - 1) * w := by rw [Int.sub_mul, Int.one_mul, e2t]
        rw [this, Int.mul_assoc, Int.mul_left_comm w (a - 1) w, ← Int.mul_assoc]
      rw [Int.add_mul] at l2
      omega
    · have l2 := (Int.ediv_lt_iff_lt_mul ww).mp hh
      have l3 : (2 * t + w) * (2 * t + w) = (a + 1) * (a + 1) * (w * w) := by
        have : 2 * t + w = (a + 1) * w := by rw [Int.add_mul, Int.one_mul, e2t]
        rw [this, Int.mul_assoc, Int.mul_left_comm w (a + 1) w, ← Int.mul_assoc]
      omega
    · have w2 : w ≤ 2 * a := by
        have : w = 2 * 2 ^ (d - e - 1) := by
          rw [hw1, Int.mul_comm]
        have l : (2 : Int) ^ (d - e - 1) ≤ 2 ^ e := by
          rw [← pow_two_cast, ← pow_two_cast]
          exact Int.ofNat_le.mpr (Nat.pow_le_pow_right (by decide) (by omega))
        omega
      have : w * w ≤ 2 * a * w := Int.mul_le_mul_of_nonneg_right w2 (by omega)
      rw [Int.mul_assoc] at this
      omega
  · refine dbl_high ?_
    have := Int.lt_mul_ediv_self_add (x := m) (show 0 < 4 * t by omega)
    rw [Int.mul_add, Int.mul_one]
    exact this
theorem near_end {a n : Int} {c : Nat} (h : Near a n c c) : froot n = if a * a ≤ n then a else a - 1 := by
  obtain ⟨h0, h1, h2⟩ := h
  rw [show 2 * (c - c) = 0 by omega, Int.pow_zero, Int.ediv_one] at h1 h2
  by_cases z : a * a ≤ n
  · rw [if_pos z]
    exact froot_of ⟨by omega, z, h2⟩
  · rw [if_neg z]
    refine froot_of ⟨by omega, by omega, ?_⟩
    rw [show a - 1 + 1 = a by omega]
    omega
theorem near_start {n : Int} {c : Nat} (h1 : 2 ^ (2 * c) ≤ n) (h2 : n < 2 ^ (2 * c + 2)) : Near 1 n c 0 := by
  refine ⟨by decide, ?_, ?_⟩
  · show (0 : Int) < n / 2 ^ (2 * (c - 0))
    have := (Int.le_ediv_iff_mul_le (pow_pos2 (2 * (c - 0)))).mpr (show 1 * 2 ^ (2 * (c - 0)) ≤ n by rw [Int.one_mul]; exact h1)
    omega
  · refine (Int.ediv_lt_iff_lt_mul (pow_pos2 _)).mpr ?_
    have e : ((1 : Int) + 1) * (1 + 1) * 2 ^ (2 * (c - 0)) = 2 ^ (2 * c + 2) := by
      rw [Int.pow_add, Int.mul_comm]
      rfl
    rw [e]
    exact h2
theorem near_abs {a n : Int} {c d : Nat} {k : Nat} (h : Near a n c d) (h0 : 0 ≤ n) (hn : n.natAbs < 2 ^ (2 * k)) : a.natAbs < 2 ^ k + 2 := by
  obtain ⟨h1, h2, _⟩ := h
  have l : n / 2 ^ (2 * (c - d)) ≤ n := Int.ediv_le_self _ h0
  refine Decidable.byContradiction fun z => ?_
  have p := pow_two_cast k
  have e2 : ((2 : Int) ^ k) ≤ a - 1 := by omega
  have := sq_mono (Int.le_of_lt (pow_pos2 k)) e2
  rw [← pow_sq, ← pow_two_cast] at this
  omega
/-! ### quotients of ends -/
def four (a b c d : Int × Int) : List ((Int × Int) × (Int × Int)) := [(a, c), (a, d), (b, c), (b, d)]
theorem four_mem {a b c d : Int × Int} {q : (Int × Int) × (Int × Int)} (h : q ∈ four a b c d) : (q.1 = a ∨ q.1 = b) ∧ (q.2 = c ∨ q.2 = d) := by
  simp only [four, List.mem_cons, List.not_mem_nil, or_false] at h
  rcases h with h | h | h | h <;> rw [h] <;> simp
def ql (a b c d : Int × Int) (bits : Int) : List Int := (four a b c d).map fun q => fq q.1 q.2 bits
def qh (a b c d : Int × Int) (bits : Int) : List Int := (four a b c d).map fun q => -fq (pneg q.1) q.2 bits
theorem at_pos {a : Int × Int} {E : Int} (h : 0 < a.1) : 0 < at_ a E := Int.mul_pos h (pow_pos2 _)
theorem fq_at {a b : Int × Int} {E bits : Int} (ha : E ≤ a.2) (hb : E ≤ b.2) (hp : 0 < b.1) (h0 : 0 ≤ bits) : fq a b bits = at_ a E * 2 ^ bits.toNat / at_ b E := by
  unfold fq at_
  have e1 : a.1 * 2 ^ (a.2 - E).toNat * 2 ^ bits.toNat = a.1 * 2 ^ ((a.2 - E).toNat + bits.toNat) := by rw [Int.mul_assoc, ← Int.pow_add]
  rw [e1]
  by_cases z : a.2 - b.2 + bits < 0
  · rw [if_pos z, Int.fdiv_eq_ediv_of_nonneg _ (Int.le_of_lt (Int.mul_pos hp (pow_pos2 _)))]
    have e2 : b.1 * 2 ^ (b.2 - E).toNat = b.1 * 2 ^ (-(a.2 - b.2 + bits)).toNat * 2 ^ ((a.2 - E).toNat + bits.toNat) := by
      rw [Int.mul_assoc, ← Int.pow_add, show (-(a.2 - b.2 + bits)).toNat + ((a.2 - E).toNat + bits.toNat) = (b.2 - E).toNat by omega]
    rw [e2, Int.mul_ediv_mul_of_pos_left _ _ (pow_pos2 _)]
  · rw [if_neg z, Int.fdiv_eq_ediv_of_nonneg _ (Int.le_of_lt hp)]
    have e2 : a.1 * 2 ^ ((a.2 - E).toNat + bits.toNat) = a.1 * 2 ^ (a.2 - b.2 + bits).toNat * 2 ^ (b.2 - E).toNat := by
      rw [Int.mul_assoc, ← Int.pow_add, show (a.2 - b.2 + bits).toNat + (b.2 - E).toNat = (a.2 - E).toNat + bits.toNat by omega]
    rw [e2, Int.mul_ediv_mul_of_pos_left _ _ (pow_pos2 _)]
theorem div_anti {x b d : Int} (hx : 0 ≤ x) (hb : 0 < b) (h : b ≤ d) : x / d ≤ x / b := by
  refine (Int.le_ediv_iff_mul_le hb).mpr ?_
  have h1 : x / d * b ≤ x / d * d := Int.mul_le_mul_of_nonneg_left h (Int.ediv_nonneg hx (by omega))
  have h2 := Int.mul_ediv_self_le (x := x) (k := d) (by omega)
  rw [Int.mul_comm] at h2
  omega
theorem div_mono {x b d : Int} (hx : x ≤ 0) (hb : 0 < b) (h : b ≤ d) : x / b ≤ x / d := by
  refine (Int.le_ediv_iff_mul_le (show 0 < d by omega)).mpr ?_
  have n : x / b ≤ 0 := by
    have := Int.ediv_le_ediv hb hx
    rw [Int.zero_ediv] at this
    exact this
  have h1 : x / b * d ≤ x / b * b := Int.mul_le_mul_of_nonpos_left n h
  have h2 := Int.mul_ediv_self_le (x := x) (k := b) (by omega)
  rw [Int.mul_comm] at h2
  omega
theorem sgn_pord0 (n : Int × Int) : pord n (0, 0) = sgn n.1 := by
  rw [pord_at (E := min n.2 0) (by omega) (by show min n.2 0 ≤ 0; omega)]
  have e : at_ (0, 0) (min n.2 0) = 0 := Int.zero_mul _
  rw [e, Int.sub_zero, at_sgn]
/-- the least of the quotients, by a number that is no greater than the others -/
theorem quo_min {x y c d z : Int × Int} {bits : Int} (hxy : pord x y ≤ 0) (hcd : pord c d ≤ 0) (hz : z = c ∨ z = d) (hc : 0 < c.1) (hd : 0 < d.1) (h0 : 0 ≤ bits) (h : (0 ≤ x.1 ∧ z = d) ∨ (x.1 ≤ 0 ∧ z = c)) :
    fq x z bits ≤ fq x c bits ∧ fq x z bits ≤ fq x d bits ∧ fq x z bits ≤ fq y c bits ∧ fq x z bits ≤ fq y d bits := by
  obtain ⟨E, hx, hy, hc2, hd2, _⟩ := low4 x y c d
  have A := (ord_at hx hy).mp hxy
  have C := (ord_at hc2 hd2).mp hcd
  have pc : 0 < at_ c E := at_pos hc
  have pd : 0 < at_ d E := at_pos hd
  have P : at_ x E * 2 ^ bits.toNat ≤ at_ y E * 2 ^ bits.toNat := Int.mul_le_mul_of_nonneg_right A (Int.le_of_lt (pow_pos2 _))
  have m1 := Int.ediv_le_ediv pc P
  have m2 := Int.ediv_le_ediv pd P
  rw [fq_at hx hc2 hc h0, fq_at hx hd2 hd h0, fq_at hy hc2 hc h0, fq_at hy hd2 hd h0]
  rcases h with ⟨s, e⟩ | ⟨s, e⟩
  · rw [e, fq_at hx hd2 hd h0]
    have n : 0 ≤ at_ x E * 2 ^ bits.toNat := Int.mul_nonneg (at_nonneg s) (Int.le_of_lt (pow_pos2 _))
    have := div_anti n pc C
    omega
  · rw [e, fq_at hx hc2 hc h0]
    have n : at_ x E * 2 ^ bits.toNat ≤ 0 := Int.mul_nonpos_of_nonpos_of_nonneg (at_nonpos s) (Int.le_of_lt (pow_pos2 _))
    have := div_mono n pc C
    omega
theorem pos_of_le {c d : Int × Int} (hcd : pord c d ≤ 0) (hc : 0 < c.1) : 0 < d.1 := by
  obtain ⟨E, h1, h2, _, _⟩ := low3 c d d
  have C := (ord_at h1 h2).mp hcd
  have pc : 0 < at_ c E := at_pos hc
  rcases Int.lt_or_le 0 d.1 with z | z
  · exact z
  · have : at_ d E ≤ 0 := at_nonpos z
    omega
theorem quo_ends {a b c d : Int × Int} {bits : Int} (hab : pord a b ≤ 0) (hcd : pord c d ≤ 0) (hc : 0 < c.1) (h0 : 0 ≤ bits) :
    IsMin (fq a (if 0 ≤ a.1 then d else c) bits) (ql a b c d bits) ∧ IsMax (-fq (pneg b) (if 0 ≤ b.1 then c else d) bits) (qh a b c d bits) := by
  have hd := pos_of_le hcd hc
  constructor
  · obtain ⟨h1, h2, h3, h4⟩ := quo_min (z := if 0 ≤ a.1 then d else c) hab hcd (by by_cases z : 0 ≤ a.1; (rw [if_pos z]; exact .inr rfl); (rw [if_neg z]; exact .inl rfl)) hc hd h0 (by by_cases z : 0 ≤ a.1; (rw [if_pos z]; exact .inl ⟨z, rfl⟩); (rw [if_neg z]; exact .inr ⟨by omega, rfl⟩))
    refine ⟨?_, fun y hy => ?_⟩
    · by_cases z : 0 ≤ a.1
      · rw [if_pos z]; simp [ql, four]
      · rw [if_neg z]; simp [ql, four]
    · simp only [ql, four, List.map_cons, List.map_nil, List.mem_cons, List.not_mem_nil, or_false] at hy
      rcases hy with rfl | rfl | rfl | rfl <;> assumption
  · have hba : pord (pneg b) (pneg a) ≤ 0 := by rw [pord_neg]; exact hab
    obtain ⟨h1, h2, h3, h4⟩ := quo_min (z := if 0 ≤ b.1 then c else d) hba hcd (by by_cases z : 0 ≤ b.1; (rw [if_pos z]; exact .inl rfl); (rw [if_neg z]; exact .inr rfl)) hc hd h0 (by by_cases z : 0 ≤ b.1; (rw [if_pos z]; exact .inr ⟨by show -b.1 ≤ 0; omega, rfl⟩); (rw [if_neg z]; exact .inl ⟨by show 0 ≤ -b.1; omega, rfl⟩))
    refine ⟨?_, fun y hy => ?_⟩
    · by_cases z : 0 ≤ b.1
      · rw [if_pos z]; simp [qh, four]
      · rw [if_neg z]; simp [qh, four]
    · simp only [qh, four, List.map_cons, List.map_nil, List.mem_cons, List.not_mem_nil, or_false] at hy
      rcases hy with rfl | rfl | rfl | rfl <;> omega
theorem ql_neg {a b c d : Int × Int} {bits m : Int} (h : IsMin m (ql (pneg b) (pneg a) (pneg d) (pneg c) bits)) : IsMin m (ql a b c d bits) := by
  simp only [ql, four, List.map_cons, List.map_nil, fq_neg] at h
  obtain ⟨h1, h2⟩ := h
  simp only [List.mem_cons, List.not_mem_nil, or_false] at h1 h2
  refine ⟨?_, fun y hy => h2 y ?_⟩ <;> simp only [ql, four, List.map_cons, List.map_nil, List.mem_cons, List.not_mem_nil, or_false] at *
  · rcases h1 with z | z | z | z <;> simp [z]
  · rcases hy with z | z | z | z <;> simp [z]
theorem qh_neg {a b c d : Int × Int} {bits m : Int} (h : IsMax m (qh (pneg b) (pneg a) (pneg d) (pneg c) bits)) : IsMax m (qh a b c d bits) := by
  have e : ∀ x y : Int × Int, fq (pneg (pneg x)) (pneg y) bits = fq (pneg x) y bits := fun x y => fq_neg
  simp only [qh, four, List.map_cons, List.map_nil, e] at h
  obtain ⟨h1, h2⟩ := h
  simp only [List.mem_cons, List.not_mem_nil, or_false] at h1 h2
  refine ⟨?_, fun y hy => h2 y ?_⟩ <;> simp only [qh, four, List.map_cons, List.map_nil, List.mem_cons, List.not_mem_nil, or_false] at *
  · rcases h1 with z | z | z | z <;> simp [z]
  · rcases hy with z | z | z | z <;> simp [z]
end Onc

namespace Onc
open PySem PySem.Spec PyProof.Rows L2 Evl
def topS (i : Nat) : Stmt := PySem.Challenge.pw_oncenear_k24_exact_worths.main.body.getD i (.Pass ⟨0, 0, 0, 0⟩)
structure Top (mg : Str → Option Value) : Prop where
  isinstance : mg "isinstance" = none
  len : mg "len" = none
  range : mg "range" = none
  ty_int : mg "int" = none
  ty_bool : mg "bool" = none
  ty_tuple : mg "tuple" = none
  ty_str : mg "str" = none
  min : mg "min" = none
  max : mg "max" = none
  abs : mg "abs" = none
  all : mg "all" = none
abbrev FnP (K : PySem.W.Frag) (x : Str) (st : Stmt) (f : Addr) (fd : FuncData) : Prop := FunD K x x (defArgs st) (defBody st) (defScope st) [] [] f fd
/-! ### promises -/
def spWhole (K : PySem.W.Frag) : Sp := fun vs H Q _ => ∃ v b, vs = [v] ∧ WholeIs K H v b ∧ Q (.bl b) H
def spNum (K : PySem.W.Frag) : Sp := fun vs H Q _ => ∃ v b, vs = [v] ∧ NumIs K H v b ∧ ∀ H', Ex H H' → Q (.bl b) H'
def spNof : Sp := fun vs H Q _ => ∃ m e : Int, vs = [.int m, .int e] ∧ ∀ H' p, Ex H H' → H p = none → H' p = some (.tup [.int (nrm m e).1, .int (nrm m e).2]) → Q (.ref p) H'
def spTens : Sp := fun vs H Q _ => ∃ k : Int, vs = [.int k] ∧ 0 ≤ k ∧ k ≤ 10000 ∧ ∀ z : Int, Q (.int z) H
def spMix : Sp := fun vs H Q _ => ∃ a k : Int, vs = [.int a, .int k] ∧ ∀ z : Int, Q (.int z) H
def spCel (K : PySem.W.Frag) : Sp := fun vs H Q _ => ∃ (a : Addr) (ns : List Int) (k : Int), vs = [.ref a, .int k] ∧ SqL K H a (ns.map V.int) ∧ 0 ≤ k ∧ k < 1000 ∧ ∀ z : Int, Q (.int z) H
def spTake : Sp := fun vs H Q _ => ∃ (p : Addr) (x n : Int), vs = [.ref p, .int n] ∧ H p = some (.lst [.int x]) ∧ 0 < n ∧ n.natAbs.log2 < 9000 ∧ Q (.int (x % n)) (upd H p (.lst [.int (x / n)]))
def spNumber : Sp := fun vs H Q _ => ∃ (p : Addr) (x : Int), vs = [.ref p] ∧ H p = some (.lst [.int x]) ∧
  ∀ H' q (x' m e : Int), (∀ b o, H b = some o → b ≠ p → H' b = some o) → H' p = some (.lst [.int x']) → H q = none → H' q = some (.tup [.int m, .int e]) → isNumB m e = true → m.natAbs < 2 ^ 201 → e.natAbs < 2000 → Q (.ref q) H'
theorem log_small {z : Int} {k : Nat} (h0 : 0 < z) (h : z ≤ 2 ^ k) (hk : k < 9000) : z.natAbs.log2 < 9000 := by
  have h1 : z.natAbs < 2 ^ (k + 1) := by
    have e : (2 : Int) ^ (k + 1) = 2 ^ k * 2 := Int.pow_succ ..
    have e2 : ((2 ^ (k + 1) : Nat) : Int) = 2 ^ (k + 1) := pow_two_cast _
    omega
  have h2 : z.natAbs.log2 < k + 1 := PySem.Flt.log2_lt_of (Nat.succ_pos k) h1
  omega
/-! ### evaluation beside a pile: all is kept but the pile p -/
def Pl (p : Addr) (H : Hp) : Prop := ∃ x : Int, H p = some (.lst [.int x])
def EvK (p : Addr) (P : Hp → V → Prop) (te : TE) (σ : L2.St) (H : Hp) : Prop := ∀ H1, Keeps p H H1 → Pl p H1 → ∀ Q : VK, (∀ v H2, Keeps p H1 H2 → Pl p H2 → P H2 v → Q v H2) → te σ H1 Q
abbrev EvI (p : Addr) (S : Int → Prop) (te : TE) (σ : L2.St) (H : Hp) : Prop := EvK p (fun _ v => ∃ z, v = .int z ∧ S z) te σ H
section
variable {K : PySem.W.Frag} {p : Addr} {σ : L2.St} {H H' : Hp} {ta tb te : TE} {S T U : Int → Prop}
theorem Keeps.refl (p : Addr) (H : Hp) : Keeps p H H := fun _ _ h _ => h
theorem EvK.mono {P : Hp → V → Prop} (h : EvK p P te σ H) (k : Keeps p H H') : EvK p P te σ H' := fun H1 k1 l Q q => h H1 (k.trans k1) l Q q
theorem EvK.imp {P P' : Hp → V → Prop} (h : EvK p P te σ H) (i : ∀ H v, P H v → P' H v) : EvK p P' te σ H := fun H1 k l Q q => h H1 k l Q fun v H2 k2 l2 hv => q v H2 k2 l2 (i H2 v hv)
theorem evi_imp (h : EvI p S te σ H) (i : ∀ z, S z → T z) : EvI p T te σ H := h.imp fun _ _ ⟨z, e, s⟩ => ⟨z, e, i z s⟩
theorem evi_c {z : Int} (h : S z) : EvI p S (tC (.int z)) σ H := fun H1 k l Q q => q (.int z) H1 (Keeps.refl p H1) l ⟨z, rfl, h⟩
theorem evi_var {i : Nat} {z : Int} (hi : σ[i]? = some (some (.int z))) (h : S z) : EvI p S (tVar i) σ H := fun H1 k l Q q => ⟨.int z, hi, q (.int z) H1 (Keeps.refl p H1) l ⟨z, rfl, h⟩⟩
theorem evi_op {g : Int → Int → Int} (ha : EvI p S ta σ H) (hb : EvI p T tb σ H) (h : ∀ a b, S a → T b → U (g a b)) : EvI p U (tOp (rI0 fun i j => .int (g i j)) ta tb) σ H := fun H1 k l Q q =>
  ha H1 k l _ fun v H2 k2 l2 ⟨a, e, sa⟩ => hb H2 (k.trans k2) l2 _ fun w H3 k3 l3 ⟨b, e2, sb⟩ => by
    subst e e2
    exact ⟨a, b, rfl, rfl, q _ H3 (k2.trans k3) l3 ⟨_, rfl, h a b sa sb⟩⟩
theorem evi_opC {C : Int → Int → Prop} {g : Int → Int → Int} (ha : EvI p S ta σ H) (hb : EvI p T tb σ H) (hc : ∀ a b, S a → T b → C a b) (h : ∀ a b, S a → T b → U (g a b)) : EvI p U (tOp (rI C fun i j => .int (g i j)) ta tb) σ H := fun H1 k l Q q =>
  ha H1 k l _ fun v H2 k2 l2 ⟨a, e, sa⟩ => hb H2 (k.trans k2) l2 _ fun w H3 k3 l3 ⟨b, e2, sb⟩ => by
    subst e e2
    exact ⟨a, b, rfl, rfl, hc a b sa sb, q _ H3 (k2.trans k3) l3 ⟨_, rfl, h a b sa sb⟩⟩
theorem pl_upd {x : Int} : Pl p (upd H p (.lst [.int x])) := ⟨x, upd_same⟩
theorem pl_new {q : Addr} {o : HO} (l : Pl p H) (hq : H q = none) : Pl p (upd H q o) := by
  obtain ⟨x, h⟩ := l
  exact ⟨x, by rw [upd_ne (ne_of_none h hq)]; exact h⟩
theorem pl_ex (l : Pl p H) (e : Ex H H') : Pl p H' := by
  obtain ⟨x, h⟩ := l
  exact ⟨x, e _ _ h⟩
theorem evi_take {i : Nat} {N : Int → Prop} (hi : σ[i]? = some (some (.ref p))) (hn : EvI p N te σ H) (h : ∀ n, N n → 0 < n ∧ n.natAbs.log2 < 9000) (hT : ∀ n z, N n → 0 ≤ z → z < n → T z) : EvI p T (tCall spTake [] E0 (tCons (tVar i) (tCons te tNil))) σ H := fun H1 k l Q q =>
  ⟨.ref p, hi, hn H1 k l _ fun v H2 k2 l2 ⟨n, e, sn⟩ => by
    subst e
    obtain ⟨x, hx⟩ := l2
    obtain ⟨h0, h1⟩ := h n sn
    exact ⟨p, x, n, rfl, hx, h0, h1, q _ _ (k2.trans keeps_upd) pl_upd ⟨_, rfl, hT n _ sn (Int.emod_nonneg _ (by omega)) (Int.emod_lt_of_pos _ h0)⟩⟩⟩
/-- several, each of its own set -/
def All2 : List (Int → Prop) → List Int → Prop
  | [], [] => True
  | S :: Ss, z :: zs => S z ∧ All2 Ss zs
  | _, _ => False
theorem all2_len : ∀ {Ss : List (Int → Prop)} {zs : List Int}, All2 Ss zs → zs.length = Ss.length
  | [], [], _ => rfl
  | _ :: _, _ :: _, h => congrArg Nat.succ (all2_len h.2)
theorem all2_app : ∀ {Ss Ts : List (Int → Prop)} {zs ys : List Int}, All2 Ss zs → All2 Ts ys → All2 (Ss ++ Ts) (zs ++ ys)
  | [], _, [], _, _, h => h
  | _ :: _, _, _ :: _, _, h1, h => ⟨h1.1, all2_app h1.2 h⟩
theorem all2_at : ∀ {Ss : List (Int → Prop)} {zs : List Int}, All2 Ss zs → ∀ {i : Nat} {S : Int → Prop}, Ss[i]? = some S → ∃ z, (zs.map V.int)[i]? = some (.int z) ∧ S z
  | [], [], _, i, S, h => by simp at h
  | T :: _, z :: _, g, 0, S, h => by
    have e : T = S := Option.some.inj h
    subst e
    exact ⟨z, rfl, g.1⟩
  | _ :: _, _ :: _, g, i + 1, S, h => all2_at g.2 (i := i) h
def EvIs (p : Addr) (Ss : List (Int → Prop)) (ta : TA) (σ : L2.St) (H : Hp) : Prop := ∀ H1, Keeps p H H1 → Pl p H1 → ∀ Q : List V → Hp → Prop, (∀ zs H2, Keeps p H1 H2 → Pl p H2 → All2 Ss zs → Q (zs.map V.int) H2) → ta σ H1 Q
theorem evis_nil : EvIs p [] tNil σ H := fun H1 k l Q q => q [] H1 (Keeps.refl p H1) l trivial
theorem evis_cons {tr : TA} {Ss : List (Int → Prop)} (h : EvI p S ta σ H) (hr : EvIs p Ss tr σ H) : EvIs p (S :: Ss) (tCons ta tr) σ H := fun H1 k l Q q =>
  h H1 k l _ fun v H2 k2 l2 ⟨z, e, s⟩ => hr H2 (k.trans k2) l2 _ fun zs H3 k3 l3 hz => by
    subst e
    exact q (z :: zs) H3 (k2.trans k3) l3 ⟨s, hz⟩
/-- a list of ints, elsewhere than the pile -/
def LiAt (p : Addr) (Ss : List (Int → Prop)) (H : Hp) (v : V) : Prop := ∃ l zs, v = .ref l ∧ l ≠ p ∧ H l = some (.lst (zs.map V.int)) ∧ All2 Ss zs
theorem li_keep {Ss : List (Int → Prop)} {v : V} (h : LiAt p Ss H v) (k : Keeps p H H') : LiAt p Ss H' v := by
  obtain ⟨l, zs, e, ne, hl, ha⟩ := h
  exact ⟨l, zs, e, ne, k _ _ hl ne, ha⟩
theorem keeps_new {q : Addr} {o : HO} (hq : H q = none) : Keeps p H (upd H q o) := keeps_ex (Ex.new hq)
theorem evk_lst {tr : TA} {Ss : List (Int → Prop)} (h : EvIs p Ss tr σ H) (hl : Ss.length ≤ 1000 := by decide) : EvK p (LiAt p Ss) (tLst tr) σ H := fun H1 k l Q q =>
  h H1 k l _ fun zs H2 k2 l2 hz => ⟨sz_of (by rw [List.length_map, all2_len hz]; omega), fun r hr => q (.ref r) _ (k2.trans (keeps_new hr)) (pl_new l2 hr) ⟨r, zs, rfl, (fun e => by obtain ⟨x, hx⟩ := l2; rw [e, hx] at hr; cases hr), upd_same, hz⟩⟩
theorem evk_var {P : Hp → V → Prop} {i : Nat} {v : V} (hi : σ[i]? = some (some v)) (h : ∀ H1, Keeps p H H1 → Pl p H1 → P H1 v) : EvK p P (tVar i) σ H := fun H1 k l Q q => ⟨v, hi, q v H1 (Keeps.refl p H1) l (h H1 k l)⟩
theorem evk_cat {Ss Ts : List (Int → Prop)} (ha : EvK p (LiAt p Ss) ta σ H) (hb : EvK p (LiAt p Ts) tb σ H) (hl : Ss.length + Ts.length ≤ 1000 := by decide) : EvK p (LiAt p (Ss ++ Ts)) (tOp rCat ta tb) σ H := fun H1 k l Q q =>
  ha H1 k l _ fun v H2 k2 l2 hv => hb H2 (k.trans k2) l2 _ fun w H3 k3 l3 hw => by
    obtain ⟨a, zs, rfl, na, hza, aa⟩ := li_keep hv k3
    obtain ⟨b, ys, rfl, nb, hyb, ab⟩ := hw
    refine ⟨a, b, _, _, rfl, rfl, hza, hyb, sz_of (by rw [List.length_map, List.length_map, all2_len aa, all2_len ab]; omega), fun r hr => q (.ref r) _ ((k2.trans k3).trans (keeps_new hr)) (pl_new l3 hr) ⟨r, zs ++ ys, rfl, (fun e => by obtain ⟨x, hx⟩ := l3; rw [e, hx] at hr; cases hr), by rw [List.map_append]; exact upd_same, all2_app aa ab⟩⟩
/-- an item of a list of ints, by an int that is known to be one of a set -/
theorem evi_ix {Ss : List (Int → Prop)} {W : Int → Prop} (ha : EvK p (LiAt p Ss) ta σ H) (hb : EvI p W tb σ H) (h : ∀ w, W w → 0 ≤ w ∧ ∃ R, Ss[w.toNat]? = some R ∧ ∀ z, R z → U z) : EvI p U (tOp (rIxL K) ta tb) σ H := fun H1 k l Q q =>
  ha H1 k l _ fun v H2 k2 l2 hv => hb H2 (k.trans k2) l2 _ fun w H3 k3 l3 ⟨i, e, hi⟩ => by
    subst e
    obtain ⟨a, zs, rfl, na, hza, aa⟩ := li_keep hv k3
    obtain ⟨i0, R, hR, hU⟩ := h i hi
    obtain ⟨z, hz, sz⟩ := all2_at aa hR
    obtain ⟨j, rfl⟩ : ∃ j : Nat, i = (j : Int) := ⟨i.toNat, by omega⟩
    rw [Int.toNat_natCast] at hz
    exact ⟨a, _, _, _, rfl, rfl, sq_of hza, atI_nat hz, q _ H3 (k2.trans k3) l3 ⟨z, rfl, hU z sz⟩⟩
theorem k_asg {P : Hp → V → Prop} {i : Nat} {tz : TS} {D : Ends} (h : EvK p P te σ H) (l : Pl p H) (k : ∀ v H1, Keeps p H H1 → Pl p H1 → P H1 v → tz D (σ.set i (some v)) H1) : tSeq (tAsg te (gName i)) tz D σ H := h H (Keeps.refl p H) l _ fun v H2 k2 l2 hv => k v H2 k2 l2 hv
theorem k_asg1 {P : Hp → V → Prop} {i : Nat} {D : Ends} (h : EvK p P te σ H) (l : Pl p H) (k : ∀ v H1, Keeps p H H1 → Pl p H1 → P H1 v → D.nx (σ.set i (some v)) H1) : tAsg te (gName i) D σ H := h H (Keeps.refl p H) l _ fun v H2 k2 l2 hv => k v H2 k2 l2 hv
theorem k_ret {P : Hp → V → Prop} {D : Ends} (h : EvK p P te σ H) (l : Pl p H) (k : ∀ v H1, Keeps p H H1 → Pl p H1 → P H1 v → D.rt v H1) : tRet te D σ H := h H (Keeps.refl p H) l _ fun v H2 k2 l2 hv => k v H2 k2 l2 hv
theorem k_asgL {tr : TA} {Ss : List (Int → Prop)} {i : Nat} {tz : TS} {D : Ends} (h : EvIs p Ss tr σ H) (l : Pl p H) (hl : Ss.length ≤ 1000) (k : ∀ r zs H1, Keeps p H H1 → Pl p H1 → H r = none → r ≠ p → H1 r = some (.lst (zs.map V.int)) → All2 Ss zs → tz D (σ.set i (some (.ref r))) H1) : tSeq (tAsg (tLst tr) (gName i)) tz D σ H :=
  h H (Keeps.refl p H) l _ fun zs H2 k2 l2 hz => ⟨sz_of (by rw [List.length_map, all2_len hz]; omega), fun r hr => by
    have rp : r ≠ p := fun e => by
      obtain ⟨x, hx⟩ := l2
      rw [e, hx] at hr
      cases hr
    refine k r zs _ (k2.trans (keeps_new hr)) (pl_new l2 hr) ?_ rp upd_same hz
    cases hH : H r with
    | none => rfl
    | some o =>
      rw [k2 _ _ hH rp] at hr
      cases hr⟩
theorem fresh_keep {r : Addr} (k : Keeps p H H') (hr : H' r = none) (rp : r ≠ p) : H r = none := by
  cases hH : H r with
  | none => rfl
  | some o =>
    rw [k _ _ hH rp] at hr
    cases hr
theorem keeps_mut {r : Addr} {o : HO} (k : Keeps p H H') (hr : H r = none) : Keeps p H (upd H' r o) := fun b u hb hbp => by
  rw [upd_ne (ne_of_none hb hr)]
  exact k b u hb hbp
/-- a number made of two ints -/
theorem evk_nof {R : Int → Int → Prop} {B : Nat} (ha : EvI p S ta σ H) (hb : EvI p T tb σ H) (h : ∀ a b, S a → T b → R a b ∧ Bd (nrm a b) B) : EvK p (fun H v => ∃ a b, R a b ∧ Gn K H v (nrm a b) B) (tCall spNof [] E0 (tCons ta (tCons tb tNil))) σ H := fun H1 k l Q q =>
  ha H1 k l _ fun v H2 k2 l2 ⟨a, e, sa⟩ => hb H2 (k.trans k2) l2 _ fun w H3 k3 l3 ⟨b, e2, sb⟩ => by
    subst e e2
    obtain ⟨h1, h2⟩ := h a b sa sb
    exact ⟨a, b, rfl, fun H4 r e4 _ hr => q (.ref r) H4 ((k2.trans k3).trans (keeps_ex e4)) (pl_ex l3 e4) ⟨a, b, h1, numAt_of hr, nrm_num a b, h2⟩⟩
end
/-! ### words and places -/
def fns : List Str := ["root", "exp", "log", "sin", "cos", "arc"]
structure Wd (mg : Str → Option Value) (K : PySem.W.Frag) (FA : Addr) : Prop where
  m : mg "FUNCTIONS" = some (.ref FA)
  t : ∀ H : Hp, SqT K H FA (fns.map V.str)
def PlaceOf (w : Str) (n : Int × Int) : Prop := (w = "root" → 0 ≤ n.1) ∧ (w = "log" → 0 < n.1) ∧ (w = "exp" → pord (-125, 3) n ≤ 0 ∧ pord n (125, 3) ≤ 0) ∧ (w ≠ "root" → w ≠ "log" → w ≠ "exp" → n.1 = 0 ∨ psize n < 800)
def OptAt (K : PySem.W.Frag) (H : Hp) (v : V) : Option (Int × Int) → Prop
  | none => v = .non
  | some n => NumAt K H v n
theorem optAt_ex {K : PySem.W.Frag} {H H' : Hp} {v : V} {o : Option (Int × Int)} (e : Ex H H') (h : OptAt K H v o) : OptAt K H' v o := by
  cases o with
  | none => exact h
  | some n => exact numAt_ex e h
noncomputable def exRoot (n : Int × Int) : Option (Int × Int) := if n.2 % 2 = 1 then none else if froot n.1 * froot n.1 = n.1 then some (froot n.1, n.2 / 2) else none
noncomputable def exW (w : Str) (n : Int × Int) : Option (Int × Int) := if w = "root" then exRoot n else if w = "log" then (if n = (1, 0) then some (0, 0) else none) else if n ≠ (0, 0) then none else if w = "exp" ∨ w = "cos" then some (1, 0) else some (0, 0)
def optD : Option (Int × Int) → PyData
  | none => .none
  | some n => pairD n
theorem optAt_dp {K : PySem.W.Frag} {H : Hp} {v : V} {o : Option (Int × Int)} (h : OptAt K H v o) : Dp K H v (optD o) := by
  cases o with
  | none =>
    rw [show v = .non from h]
    exact .non
  | some n => exact numAt_dp h
theorem opt_shaped (o : Option (Int × Int)) : SeqAt.shaped (optD o) = true := by
  cases o <;> rfl
theorem opt_lay (o : Option (Int × Int)) : PyData.canLay0 (optD o) = true := by
  cases o <;> rfl
theorem v_str {a b : Str} : (decide (V.str a = V.str b)) = decide (a = b) := decide_eq_decide.mpr ⟨fun z => V.str.inj z, fun z => congrArg V.str z⟩
theorem in_fns {w : Str} (h : w ∈ fns) : inV (.str w) (fns.map V.str) = true := by
  simp only [fns, List.mem_cons, List.not_mem_nil, or_false] at h
  rcases h with rfl | rfl | rfl | rfl | rfl | rfl <;> decide +kernel
def spNeedWd (K : PySem.W.Frag) (FA : Addr) : Sp := fun vs H Q _ => ∃ w, vs = [.str w, .ref FA] ∧ SqT K H FA (fns.map V.str) ∧ w ∈ fns ∧ Q .non H
def spBetw (K : PySem.W.Frag) : Sp := fun vs H Q _ => ∃ u v z n a b, vs = [u, v, z] ∧ Gn K H u n 3000 ∧ Gn K H v a 3000 ∧ Gn K H z b 3000 ∧ ∀ H', Ex H H' → Q (.bl (decide (pord a n ≤ 0) && decide (pord n b ≤ 0))) H'
def spIsPl (K : PySem.W.Frag) : Sp := fun vs H Q _ => ∃ w v n, vs = [.str w, v] ∧ Gn K H v n 3000 ∧ PlaceOf w n ∧ ∀ H', Ex H H' → Q (.bl true) H'
def spNeedPl (K : PySem.W.Frag) : Sp := fun vs H Q _ => ∃ w v n, vs = [.str w, v] ∧ Gn K H v n 3000 ∧ PlaceOf w n ∧ ∀ H', Ex H H' → Q .non H'
def spExR (K : PySem.W.Frag) : Sp := fun vs H Q _ => ∃ v n, vs = [v] ∧ Gn K H v n 3000 ∧ 0 ≤ n.1 ∧ ∀ H' z, Ex H H' → OptAt K H' z (exRoot n) → Q z H'
def spExA (K : PySem.W.Frag) : Sp := fun vs H Q _ => ∃ w v n, vs = [.str w, v] ∧ Gn K H v n 3000 ∧ PlaceOf w n ∧ ∀ H' z, Ex H H' → OptAt K H' z (exW w n) → Q z H'
def spExW (K : PySem.W.Frag) : Sp := fun vs H Q _ => ∃ w v n, vs = [.str w, v] ∧ w ∈ fns ∧ Gn K H v n 3000 ∧ PlaceOf w n ∧ ∀ H' z, Ex H H' → OptAt K H' z (exW w n) → Q z H'
def spIsEx (K : PySem.W.Frag) : Sp := fun vs H Q _ => ∃ w v n, vs = [.str w, v] ∧ w ∈ fns ∧ Gn K H v n 3000 ∧ PlaceOf w n ∧ ∀ H', Ex H H' → Q (.bl (exW w n).isSome) H'
theorem in_2 {a b w : Str} (h : inV (.str w) [.str a, .str b] = true) : w = a ∨ w = b := by
  simp only [inV, List.any_cons, List.any_nil, Bool.or_false, Bool.or_eq_true] at h
  rcases h with z | z
  · exact .inl (Eq.symm (by simpa [eqV] using z))
  · exact .inr (Eq.symm (by simpa [eqV] using z))
theorem in_2' {a b w : Str} (h : w = a ∨ w = b) : inV (.str w) [.str a, .str b] = true := by
  simp only [inV, List.any_cons, List.any_nil, Bool.or_false, Bool.or_eq_true]
  rcases h with rfl | rfl
  · exact .inl (by simp [eqV])
  · exact .inr (by simp [eqV])
theorem in_two {w : Str} (h : inV (.str w) [.str "exp", .str "cos"] = true) : w = "exp" ∨ w = "cos" := in_2 h
theorem two_in {w : Str} (h : w = "exp" ∨ w = "cos") : inV (.str w) [.str "exp", .str "cos"] = true := in_2' h
abbrev s_floor_root : Stmt := topS 5
theorem sc_floor_root : FnScope ["whole", "half", "root", "known", "place", "before"] ["whole"] (defScope s_floor_root) := ⟨rfl, rfl, rfl, by decide +kernel, rfl, by decide +kernel, by decide +kernel⟩
abbrev s_is_number : Stmt := topS 8
theorem sc_is_number : FnScope ["thing", "m", "e"] ["thing"] (defScope s_is_number) := ⟨rfl, rfl, rfl, by decide +kernel, rfl, by decide +kernel, by decide +kernel⟩
abbrev s_need_number : Stmt := topS 9
theorem sc_need_number : FnScope ["thing"] ["thing"] (defScope s_need_number) := ⟨rfl, rfl, rfl, by decide +kernel, rfl, by decide +kernel, by decide +kernel⟩
abbrev s_need_numbers : Stmt := topS 10
theorem sc_need_numbers : FnScope ["one", "other"] ["one", "other"] (defScope s_need_numbers) := ⟨rfl, rfl, rfl, by decide +kernel, rfl, by decide +kernel, by decide +kernel⟩
abbrev s_multiplied : Stmt := topS 12
theorem sc_multiplied : FnScope ["one", "other", "m"] ["one", "other"] (defScope s_multiplied) := ⟨rfl, rfl, rfl, by decide +kernel, rfl, by decide +kernel, by decide +kernel⟩
abbrev s_times : Stmt := topS 11
theorem sc_times : FnScope ["one", "other"] ["one", "other"] (defScope s_times) := ⟨rfl, rfl, rfl, by decide +kernel, rfl, by decide +kernel, by decide +kernel⟩
abbrev s_compared : Stmt := topS 13
theorem sc_compared : FnScope ["one", "other", "m", "e", "n", "f", "size", "other_size"] ["one", "other"] (defScope s_compared) := ⟨rfl, rfl, rfl, by decide +kernel, rfl, by decide +kernel, by decide +kernel⟩
abbrev s_size_of : Stmt := topS 14
theorem sc_size_of : FnScope ["number"] ["number"] (defScope s_size_of) := ⟨rfl, rfl, rfl, by decide +kernel, rfl, by decide +kernel, by decide +kernel⟩
abbrev s_need_word : Stmt := topS 17
theorem sc_need_word : FnScope ["thing", "words"] ["thing", "words"] (defScope s_need_word) := ⟨rfl, rfl, rfl, by decide +kernel, rfl, by decide +kernel, by decide +kernel⟩
abbrev s_is_between : Stmt := topS 21
theorem sc_is_between : FnScope ["number", "least", "most"] ["number", "least", "most"] (defScope s_is_between) := ⟨rfl, rfl, rfl, by decide +kernel, rfl, by decide +kernel, by decide +kernel⟩
abbrev s_is_place : Stmt := topS 20
theorem sc_is_place : FnScope ["word", "number"] ["word", "number"] (defScope s_is_place) := ⟨rfl, rfl, rfl, by decide +kernel, rfl, by decide +kernel, by decide +kernel⟩
abbrev s_need_place : Stmt := topS 22
theorem sc_need_place : FnScope ["word", "number"] ["word", "number"] (defScope s_need_place) := ⟨rfl, rfl, rfl, by decide +kernel, rfl, by decide +kernel, by decide +kernel⟩
abbrev s_exact_root : Stmt := topS 27
theorem sc_exact_root : FnScope ["number", "m", "e", "root"] ["number"] (defScope s_exact_root) := ⟨rfl, rfl, rfl, by decide +kernel, rfl, by decide +kernel, by decide +kernel⟩
abbrev s_exact_at : Stmt := topS 26
theorem sc_exact_at : FnScope ["word", "number"] ["word", "number"] (defScope s_exact_at) := ⟨rfl, rfl, rfl, by decide +kernel, rfl, by decide +kernel, by decide +kernel⟩
abbrev s_exact_worth : Stmt := topS 25
theorem sc_exact_worth : FnScope ["word", "number"] ["word", "number"] (defScope s_exact_worth) := ⟨rfl, rfl, rfl, by decide +kernel, rfl, by decide +kernel, by decide +kernel⟩
abbrev s_is_exact : Stmt := topS 24
theorem sc_is_exact : FnScope ["word", "number"] ["word", "number"] (defScope s_is_exact) := ⟨rfl, rfl, rfl, by decide +kernel, rfl, by decide +kernel, by decide +kernel⟩
abbrev s_law_mixed : Stmt := topS 29
theorem sc_law_mixed : FnScope ["_law_cell_here", "_law_k", "_law_number_told"] ["_law_cell_here", "_law_k"] (defScope s_law_mixed) := ⟨rfl, rfl, rfl, by decide +kernel, rfl, by decide +kernel, by decide +kernel⟩
abbrev s_law_cell : Stmt := topS 30
theorem sc_law_cell : FnScope ["_law_script", "_law_k", "_law_cell_here", "_law_found", "_law_j"] ["_law_script", "_law_k"] (defScope s_law_cell) := ⟨rfl, rfl, rfl, by decide +kernel, rfl, by decide +kernel, by decide +kernel⟩
abbrev s_law_take : Stmt := topS 31
theorem sc_law_take : FnScope ["_law_pile", "_law_size", "_law_digit"] ["_law_pile", "_law_size"] (defScope s_law_take) := ⟨rfl, rfl, rfl, by decide +kernel, rfl, by decide +kernel, by decide +kernel⟩
abbrev s_law_floor_root : Stmt := topS 32
theorem sc_law_floor_root : FnScope ["_law_whole", "_law_found", "_law_k", "_law_more"] ["_law_whole"] (defScope s_law_floor_root) := ⟨rfl, rfl, rfl, by decide +kernel, rfl, by decide +kernel, by decide +kernel⟩
abbrev s_law_exact : Stmt := topS 33
theorem sc_law_exact : FnScope ["_law_word_told", "_law_number_told", "_law_root"] ["_law_word_told", "_law_number_told"] (defScope s_law_exact) := ⟨rfl, rfl, rfl, by decide +kernel, rfl, by decide +kernel, by decide +kernel⟩
abbrev s_law_odd : Stmt := topS 34
theorem sc_law_odd : FnScope ["_law_m", "_law_e"] ["_law_m", "_law_e"] (defScope s_law_odd) := ⟨rfl, rfl, rfl, by decide +kernel, rfl, by decide +kernel, by decide +kernel⟩
abbrev s_law_place : Stmt := topS 35
theorem sc_law_place : FnScope ["_law_pile", "_law_word_told", "_law_way", "_law_most", "_law_m", "_law_e"] ["_law_pile", "_law_word_told"] (defScope s_law_place) := ⟨rfl, rfl, rfl, by decide +kernel, rfl, by decide +kernel, by decide +kernel⟩
abbrev s_law_good : Stmt := topS 36
theorem sc_law_good : FnScope ["_law_word_own", "_law_number_own", "_law_due", "_law_found", "_law_truth"] ["_law_word_own", "_law_number_own"] (defScope s_law_good) := ⟨rfl, rfl, rfl, by decide +kernel, rfl, by decide +kernel, by decide +kernel⟩
abbrev s_law : Stmt := topS 37
theorem sc_law : FnScope ["_law_script", "_law_words", "_law_k", "_law_pile", "_law_word_own", "_law_m", "_law_e", "_law_some", "_law_number_own"] ["_law_script"] (defScope s_law) := ⟨rfl, rfl, rfl, by decide +kernel, rfl, by decide +kernel, by decide +kernel⟩
section
variable {P : Program} {w : World} {K : PySem.W.Frag} {mg : Str → Option Value} {base : Heap}
theorem log_half {n : Int} (hn : 0 < n) : (2 : Int) ^ (2 * ((Builtin.Int.intBits n - 1) / 2)) ≤ n ∧ n < 2 ^ (2 * ((Builtin.Int.intBits n - 1) / 2) + 2) := by
  rw [bits_of (by omega)]
  have h1 : 2 ^ n.natAbs.log2 ≤ n.natAbs := Nat.log2_self_le (by omega)
  have h2 : n.natAbs < 2 ^ (n.natAbs.log2 + 1) := Nat.lt_log2_self
  have e : (n.natAbs : Int) = n := by omega
  generalize n.natAbs.log2 = k at *
  have l1 : 2 ^ (2 * ((k + 1 - 1) / 2)) ≤ 2 ^ k := Nat.pow_le_pow_right (by decide) (by omega)
  have l2 : 2 ^ (k + 1) ≤ 2 ^ (2 * ((k + 1 - 1) / 2) + 2) := Nat.pow_le_pow_right (by decide) (by omega)
  rw [← pow_two_cast, ← pow_two_cast]
  omega
theorem shr_step {c L i : Nat} (hc : c < 2 ^ L) (h1 : 2 ^ (L - 1) ≤ c) (hi : i < L) : c / 2 ^ (L - i) < c / 2 ^ (L - 1 - i) ∧ c / 2 ^ (L - 1 - i) ≤ 2 * (c / 2 ^ (L - i)) + 1 := by
  have e : 2 ^ (L - i) = 2 ^ (L - 1 - i) * 2 := by
    rw [← Nat.pow_succ]
    congr 1
    omega
  have e2 : c / 2 ^ (L - i) = c / 2 ^ (L - 1 - i) / 2 := by rw [e, Nat.div_div_eq_div_mul]
  have e3 : 1 ≤ c / 2 ^ (L - 1 - i) := (Nat.le_div_iff_mul_le (Nat.pow_pos (by decide))).mpr (by
    rw [Nat.one_mul]
    exact Nat.le_trans (Nat.pow_le_pow_right (by decide) (by omega)) h1)
  rw [e2]
  omega
theorem ok_floor_root {f : Addr} {fd : FuncData} (T : Top mg) (F : FnP K "floor_root" s_floor_root f fd) : FnOk P w K mg base CX0 1 f fd ["whole"] spFRoot := by
  have sc := sc_floor_root
  refine ok0 F sc (fun vs H Q E h => ?_) (fun cdv A outer s H vs Q E hr h => ?_)
  · obtain ⟨n, rfl, _⟩ := h
    rfl
  · obtain ⟨n, rfl, h0, hb, q⟩ := h
    refine ⟨_, (pss_cons (ps_if (pt_cmpR op_eq (pv 0) pe_int (nomark _))
      (pss_one (ps_ret pe_int)) pss_nil)
    (pss_cons (ps_set (i := 1) sc.nd rfl (.inl rfl) (pe_op op_fdivW (pe_op op_sub (pe_bits (pv 0)) pe_int) pe_int))
    (pss_cons (ps_set (i := 2) sc.nd rfl (.inl rfl) pe_int)
    (pss_cons (ps_set (i := 3) sc.nd rfl (.inl rfl) pe_int)
    (pss_cons (ps_for PassesOwn.never rfl (pi_range3 (by rfl) T.range (pa_cons (pe_op op_sub (pe_bits (pv 1)) pe_int) (pa_cons (pe_un un_neg pe_int) (pa_cons (pe_un un_neg pe_int) pa_nil)))) (pg_name (i := 4) sc.nd rfl (.inl rfl))
      (pss_cons (ps_set (i := 5) sc.nd rfl (.inl rfl) (pv 3))
      (pss_cons (ps_set (i := 3) sc.nd rfl (.inl rfl) (pe_op op_shrN (pv 1) (pv 4)))
      (pss_one (ps_set (i := 2) sc.nd rfl (.inl rfl) (pe_op op_add (pe_op op_shlW (pv 2) (pe_op op_sub (pe_op op_sub (pv 3) (pv 5)) pe_int)) (pe_op op_fdivW (pe_op op_shrN (pv 0) (pe_op op_add (pe_op op_sub (pe_op op_sub (pe_op op_mul pe_int (pv 1)) (pv 5)) (pv 3)) pe_int)) (pv 2))))))))
    (pss_one (ps_ret (pe_ifExp (pt_cmpR op_le (pe_op op_mulX (pv 2) (pv 2)) (pv 0) (nomark _)) (pv 2) (pe_op op_sub (pv 2) pe_int))))))))), ?_⟩
    have q := q H (Ex.refl H)
    refine ⟨.int n, rfl, rfl, _, rfl, ite2 (fun hz => ?_) (fun hz => ?_)⟩
    · have e0 : n = 0 := V.int.inj (of_decide_eq_true hz)
      subst e0
      rw [froot_of (r := 0) ⟨by decide, by decide, by decide⟩] at q
      exact q
    · have e0 : n ≠ 0 := fun z => hz (decide_eq_true (congrArg V.int z))
      have hn : 0 < n := by omega
      have hbits : Builtin.Int.intBits n ≤ 8000 := by
        rw [bits_of e0]
        exact PySem.Flt.log2_lt_of (by decide) hb
      have hbits1 : 1 ≤ Builtin.Int.intBits n := by
        rw [bits_of e0]
        omega
      obtain ⟨g1, g2⟩ := log_half hn
      obtain ⟨c, hc⟩ : ∃ c : Nat, c = (Builtin.Int.intBits n - 1) / 2 := ⟨_, rfl⟩
      rw [← hc] at g1 g2
      have hc4 : c < 4000 := by omega
      have hdiv : (((Builtin.Int.intBits n : Nat) : Int) - 1) / 2 = (c : Int) := by omega
      refine ⟨.int n, rfl, n, rfl, _, 1, rfl, rfl, _, 2, rfl, rfl, ⟨by decide, by decide⟩, ?_⟩
      obtain ⟨L, hL⟩ : ∃ L : Nat, L = Builtin.Int.intBits (c : Int) := ⟨_, rfl⟩
      have hL1 : L ≤ 20 := by
        rw [hL]
        by_cases z : (c : Int) = 0
        · rw [z]
          decide
        · rw [bits_of z]
          exact PySem.Flt.log2_lt_of (by decide) (by show (c : Int).natAbs < 2 ^ 20; omega)
      have hcL : c < 2 ^ L := by
        rw [hL]
        by_cases z : c = 0
        · rw [z]
          decide
        · rw [bits_of (by omega)]
          have : (c : Int).natAbs = c := by omega
          rw [this]
          exact Nat.lt_log2_self
      have hcL1 : 0 < L → 2 ^ (L - 1) ≤ c := fun hp => by
        by_cases z : c = 0
        · rw [hL, z] at hp
          exact absurd hp (by decide)
        · rw [hL, bits_of (by omega)]
          have : (c : Int).natAbs = c := by omega
          rw [this]
          exact Nat.log2_self_le z
      refine ⟨.int (c : Int), congrArg (fun z => some (some (V.int z))) hdiv, (c : Int), rfl, _, 1, rfl, rfl, 1, rfl, 1, rfl, _, -1, -1, L, rfl, ?_, ?_⟩
      · have := RgC.neg (i := ((L : Nat) : Int) - 1) (j := -1) (by omega) (by omega) (by omega) (by omega)
        rw [show (((L : Nat) : Int) - 1 - -1).toNat = L by omega] at this
        rw [← hL]
        exact this
      refine for_rangeC (fun i σ' H' => H' = H ∧ i ≤ L ∧ ∃ (a : Int) (t u : Option V), σ' = [some (.int n), some (.int (c : Int)), some (.int a), some (.int ((c / 2 ^ (L - i) : Nat) : Int)), t, u] ∧ Near a n c (c / 2 ^ (L - i))) ⟨rfl, Nat.zero_le _, 1, none, none, ?_, ?_⟩ (fun i σ' H' hi hp => ?_) (fun σ' H' hp => ?_)
      · have z : c / 2 ^ (L - 0) = 0 := Nat.div_eq_of_lt hcL
        rw [z, ← hdiv]
        rfl
      · have z : c / 2 ^ (L - 0) = 0 := Nat.div_eq_of_lt hcL
        rw [z]
        exact near_start g1 g2
      · obtain ⟨rfl, _, a, t, u, rfl, hN⟩ := hp
        obtain ⟨s1, s2⟩ := shr_step hcL (hcL1 (by omega)) hi
        obtain ⟨e, he⟩ : ∃ e, e = c / 2 ^ (L - i) := ⟨_, rfl⟩
        obtain ⟨d, hd⟩ : ∃ d, d = c / 2 ^ (L - 1 - i) := ⟨_, rfl⟩
        rw [← he, ← hd] at s1 s2
        rw [← he] at hN
        have hdc : d ≤ c := by
          rw [hd]
          exact Nat.div_le_self _ _
        have ei : ((L : Nat) : Int) - 1 + ((i : Nat) : Int) * -1 = ((L - 1 - i : Nat) : Int) := by omega
        have eL : L - (i + 1) = L - 1 - i := by omega
        have ab := near_abs (k := 4000) hN h0 hb
        have ab2 : a.natAbs < 2 ^ 4001 := by
          have : (2 : Nat) ^ 4001 = 2 ^ 4000 * 2 := Nat.pow_succ ..
          have : 2 ≤ 2 ^ 4000 := Nat.le_trans (by decide : 2 ≤ 2 ^ 1) (Nat.pow_le_pow_right (by decide) (by decide))
          omega
        have st := near_step g1 hdc s1 s2 hN
        rw [← hL, ei, ← he]
        have k1 : ((d : Nat) : Int) - ((e : Nat) : Int) - 1 = ((d - e - 1 : Nat) : Int) := by omega
        have k2 : 2 * ((c : Nat) : Int) - ((e : Nat) : Int) - ((d : Nat) : Int) + 1 = ((2 * c - e - d + 1 : Nat) : Int) := by omega
        have k3 : ((c : Nat) : Int) / 2 ^ (L - 1 - i) = ((d : Nat) : Int) := by
          rw [hd, ← pow_two_cast]
          rfl
        refine ⟨.int ((e : Nat) : Int), rfl, .int (c : Int), rfl, .int ((L - 1 - i : Nat) : Int), rfl, (c : Int), L - 1 - i, rfl, rfl, ?_⟩
        refine ⟨.int a, rfl, .int ((d : Nat) : Int), congrArg (fun z => some (some (V.int z))) k3, .int ((e : Nat) : Int), rfl, _, _, rfl, rfl, _, 1, rfl, rfl, a, ((d - e - 1 : Nat) : Int), rfl, congrArg V.int k1, shl_ok ab2 (by omega), ?_⟩
        refine ⟨.int n, rfl, .int (c : Int), rfl, 2, (c : Int), rfl, rfl, .inl ⟨by decide, by decide⟩, .int ((e : Nat) : Int), rfl, _, _, rfl, rfl, .int ((d : Nat) : Int), congrArg (fun z => some (some (V.int z))) k3, _, _, rfl, rfl, _, 1, rfl, rfl, n, 2 * c - e - d + 1, rfl, congrArg V.int k2, .int a, rfl, _, a, rfl, rfl, wide_div hN.1 (Nat.lt_of_lt_of_le ab2 (Nat.pow_le_pow_right (by decide) (by decide : 4001 ≤ 4002))) (by decide) (by decide), _, _, rfl, rfl, ?_⟩
        refine ⟨rfl, by omega, a * 2 ^ (d - e - 1) + (n / 2 ^ (2 * c - e - d + 1)) / a, some (.int ((L - 1 - i : Nat) : Int)), some (.int ((e : Nat) : Int)), ?_, ?_⟩
        · rw [eL, ← hd, k3, Int.toNat_natCast]
          rfl
        · rw [eL, ← hd]
          exact st
      · obtain ⟨rfl, _, a, t, u, rfl, hN⟩ := hp
        rw [Nat.sub_self, Nat.pow_zero, Nat.div_one] at hN
        rw [near_end hN] at q
        have ab := near_abs (k := 4000) hN h0 hb
        have ab2 : a.natAbs < 2 ^ 4001 := by
          have : (2 : Nat) ^ 4001 = 2 ^ 4000 * 2 := Nat.pow_succ ..
          have : 2 ≤ 2 ^ 4000 := Nat.le_trans (by decide : 2 ≤ 2 ^ 1) (Nat.pow_le_pow_right (by decide) (by decide))
          omega
        refine ⟨.int a, rfl, .int a, rfl, a, a, rfl, rfl, mulx_ok ab2 ab2 (by decide), .int n, rfl, _, _, rfl, rfl, _, rfl, ite2 (fun h1 => ?_) (fun h1 => ?_)⟩
        · rw [if_pos (of_decide_eq_true h1)] at q
          exact ⟨.int a, rfl, q⟩
        · rw [if_neg (fun z => h1 (decide_eq_true z))] at q
          exact ⟨.int a, rfl, a, 1, rfl, rfl, q⟩
theorem ok_is_number {f : Addr} {fd : FuncData} (T : Top mg) (F : FnP K "is_number" s_is_number f fd) : FnOk P w K mg base CX0 1 f fd ["thing"] (spNum K) := by
  have sc := sc_is_number
  refine ok0 F sc (fun vs H Q E h => ?_) (fun cdv A outer s H vs Q E hr h => ?_)
  · obtain ⟨v, b, rfl, _⟩ := h
    rfl
  · obtain ⟨v, b, rfl, hn, q0⟩ := h
    have q := q0 H (Ex.refl H)
    refine ⟨_, (pss_cons (ps_if (PW.pt (pw_or (pt_not (pt_val (pe_callB call_isi (by rfl) T.isinstance (by decide +kernel) (pa_cons (pv 0) (pa_cons (pe_bltn (v := .ty "tuple") (by rfl) T.ty_tuple (by decide +kernel) rfl) pa_nil))))) (pw_or1 (pt_cmpR op_ne (pe_callB call_len (by rfl) T.len (by decide +kernel) (pa_cons (pv 0) pa_nil)) pe_int (nomark _)))))
      (pss_one (ps_ret pe_bl)) pss_nil)
    (pss_cons (ps_asg (pv 0) (pg_tup rfl (pgs_cons (pg_name (i := 1) sc.nd rfl (.inl rfl)) (pgs_cons (pg_name (i := 2) sc.nd rfl (.inl rfl)) pgs_nil))))
    (pss_cons (ps_if (PW.pt (pw_or (pt_not (pt_val (pe_callB call_isi (by rfl) T.isinstance (by decide +kernel) (pa_cons (pv 1) (pa_cons (pe_bltn (v := .ty "int") (by rfl) T.ty_int (by decide +kernel) rfl) pa_nil))))) (pw_or (pt_not (pt_val (pe_callB call_isi (by rfl) T.isinstance (by decide +kernel) (pa_cons (pv 2) (pa_cons (pe_bltn (v := .ty "int") (by rfl) T.ty_int (by decide +kernel) rfl) pa_nil))))) (pw_or (pt_cmpR op_isT (pv 2) pe_bl (nomark _)) (pw_or1 (pt_cmpR op_isT (pv 2) pe_bl (nomark _)))))))
      (pss_one (ps_ret pe_bl)) pss_nil)
    (pss_cons (ps_if (pt_truth (pe_op op_and1 (pv 1) pe_int) (fun _ => rfl))
      (pss_one (ps_ret (pe_cmpR op_notT (pv 1) pe_bl (nomark _)))) pss_nil)
    (pss_one (ps_ret (pe_and (pe_cmpR (op_eqD hr.units) (pv 1) pe_int (nomark _)) (pe_and (pe_cmpR op_eq (pv 2) pe_int (nomark _)) (pe_one (pe_cmpR op_notT (pv 1) pe_bl (nomark _))))))))))), ?_⟩
    cases hn with
    | no ty k => exact rd_isi (i := 0) rfl ty k ⟨false, rfl, iteT (iteT q)⟩
    | @len a xs h l =>
      refine rd_tup (i := 0) rfl h ⟨true, rfl, iteF ?_⟩
      refine ⟨.ref a, rfl, .ref a, xs.length, rfl, .inr ⟨xs, h, rfl⟩, rfl, _, rfl, ite2 (fun _ => q) (fun hh => absurd ?_ hh)⟩
      have e : ¬ V.int ((xs.length : Nat) : Int) = V.int 2 := fun z => l (by have := V.int.inj z; omega)
      rw [decide_eq_false e]
      rfl
    | @fst a x y b h p1 p2 =>
      refine rd_tup (i := 0) rfl h ⟨true, rfl, iteF ?_⟩
      refine ⟨.ref a, rfl, .ref a, 2, rfl, .inr ⟨[x, y], h, rfl⟩, rfl, _, rfl, iteNS rfl ?_⟩
      refine ⟨.ref a, rfl, a, [x, y], rfl, h, rfl, x, [y], rfl, y, [], rfl, rfl, ?_⟩
      cases p1 with
      | no h1 k1 k2 => exact rd_isi (i := 1) (v := x) rfl h1 k1 ⟨false, rfl, iteT (iteT q)⟩
      | bl c =>
        refine rd_isi (i := 1) (v := .bl c) rfl (ty_bl c) kit_bi ⟨true, rfl, iteF ?_⟩
        cases p2 with
        | no h1 k1 k2 => exact rd_isi (i := 2) (v := y) rfl h1 k1 ⟨false, rfl, iteT (iteT q)⟩
        | bl d =>
          refine rd_isi (i := 2) (v := .bl d) rfl (ty_bl d) kit_bi ⟨true, rfl, iteF ?_⟩
          cases d with
          | true => exact ⟨.bl true, rfl, true, rfl, rfl, _, rfl, iteT (iteT q)⟩
          | false => exact ⟨.bl false, rfl, true, rfl, rfl, _, rfl, iteF ⟨.bl false, rfl, false, rfl, rfl, _, rfl, iteT q⟩⟩
        | int e =>
          refine rd_isi (i := 2) (v := .int e) rfl (ty_int e) kit_ii ⟨true, rfl, iteF ?_⟩
          refine ⟨.int e, rfl, true, rfl, rfl, _, rfl, iteF ⟨.int e, rfl, false, rfl, rfl, _, rfl, iteF ?_⟩⟩
          cases c with
          | true => exact ⟨.bl true, rfl, rfl, .inr ⟨true, rfl, true, rfl, iteT ⟨.bl true, rfl, true, rfl, rfl, q⟩⟩⟩
          | false => 
            refine ⟨.bl false, rfl, rfl, .inr ⟨false, rfl, false, rfl, iteF ?_⟩⟩
            refine ⟨.bl false, rfl, .bool false, .int 0, .bl false, .int 0, rfl, rfl, true, by decide +kernel, iteT ?_⟩
            refine ⟨.int e, rfl, rfl, _, rfl, ite2 (fun _ => ?_) (fun h2 => ?_)⟩
            · exact ⟨.bl false, rfl, false, rfl, rfl, q⟩
            · exact q
    | @snd a x y h p1 p2 =>
      refine rd_tup (i := 0) rfl h ⟨true, rfl, iteF ?_⟩
      refine ⟨.ref a, rfl, .ref a, 2, rfl, .inr ⟨[x, y], h, rfl⟩, rfl, _, rfl, iteNS rfl ?_⟩
      refine ⟨.ref a, rfl, a, [x, y], rfl, h, rfl, x, [y], rfl, y, [], rfl, rfl, ?_⟩
      cases p1 with
      | int m =>
        refine rd_isi (i := 1) (v := .int m) rfl (ty_int m) kit_ii ⟨true, rfl, iteF ?_⟩
        cases p2 with
        | no h1 k1 k2 => exact rd_isi (i := 2) (v := y) rfl h1 k1 ⟨false, rfl, iteT (iteT q)⟩
        | bl d =>
          refine rd_isi (i := 2) (v := .bl d) rfl (ty_bl d) kit_bi ⟨true, rfl, iteF ?_⟩
          cases d with
          | true => exact ⟨.bl true, rfl, true, rfl, rfl, _, rfl, iteT (iteT q)⟩
          | false => exact ⟨.bl false, rfl, true, rfl, rfl, _, rfl, iteF ⟨.bl false, rfl, false, rfl, rfl, _, rfl, iteT q⟩⟩
    | @num a m e h =>
      refine rd_tup (i := 0) rfl h ⟨true, rfl, iteF ?_⟩
      refine ⟨.ref a, rfl, .ref a, 2, rfl, .inr ⟨[.int m, .int e], h, rfl⟩, rfl, _, rfl, iteNS rfl ?_⟩
      refine ⟨.ref a, rfl, a, [.int m, .int e], rfl, h, rfl, .int m, [.int e], rfl, .int e, [], rfl, rfl, ?_⟩
      refine rd_isi (i := 1) (v := .int m) rfl (ty_int m) kit_ii ⟨true, rfl, iteF ?_⟩
      refine rd_isi (i := 2) (v := .int e) rfl (ty_int e) kit_ii ⟨true, rfl, iteF ?_⟩
      refine ⟨.int e, rfl, true, rfl, rfl, _, rfl, iteF ⟨.int e, rfl, false, rfl, rfl, _, rfl, iteF ?_⟩⟩
      refine ⟨.int m, rfl, rfl, .inl ⟨m, rfl, _, rfl, ite2 (fun h1 => ?_) (fun h1 => ?_)⟩⟩
      · have e1 : m % 2 = 1 := by
          have : m % 2 ≠ 0 := by simpa using h1
          omega
        have e2 : isNumB m e = true := by
          unfold isNumB
          rw [decide_eq_true e1]
          rfl
        rw [e2] at q
        exact ⟨.int m, rfl, true, rfl, rfl, q⟩
      · have e1 : ¬ m % 2 = 1 := fun z => h1 (by rw [z]; rfl)
        have e2 : isNumB m e = (decide (m = 0) && decide (e = 0)) := by
          unfold isNumB
          rw [decide_eq_false e1]
          rfl
        rw [e2] at q
        refine ⟨.int m, rfl, .int m, .int 0, .int m, .int 0, rfl, rfl, decide (m = 0), by simp [PyData.eqv]; rfl, ite2 (fun h2 => ?_) (fun h2 => ?_)⟩
        · rw [h2] at q
          refine ⟨.int e, rfl, rfl, _, rfl, ite2 (fun h3 => ?_) (fun h3 => ?_)⟩
          · have e4 : e = 0 := V.int.inj (of_decide_eq_true h3)
            rw [decide_eq_true e4] at q
            exact ⟨.int m, rfl, false, rfl, rfl, q⟩
          · have e4 : ¬ e = 0 := fun z => h3 (decide_eq_true (congrArg V.int z))
            rw [decide_eq_false e4] at q
            exact q
        · rw [Bool.eq_false_iff.mpr h2] at q
          exact q
theorem ok_need_number {f f1 : Addr} {fd fd1 : FuncData} (T : Top mg) (F : FnP K "need_number" s_need_number f fd) (c_is_number : Cal P w K mg base CX0 1 "is_number" ["thing"] (spNum K) f1 fd1) : FnOk P w K mg base CX0 2 f fd ["thing"] (spNeed K) := by
  have sc := sc_need_number
  refine ok0 F sc (fun vs H Q E h => ?_) (fun cdv A outer s H vs Q E hr h => ?_)
  · obtain ⟨v, rfl, _⟩ := h
    rfl
  · obtain ⟨v, rfl, hn, q⟩ := h
    refine ⟨_, (pss_one (ps_if (pt_not (pt_val (pe_call c_is_number.ok (hr.mono (by decide)) (by rfl) c_is_number.m c_is_number.kp c_is_number.b .nil pass0 (pa_cons (pv 0) pa_nil))))
      (pss_one ps_never) pss_nil)), ?_⟩
    exact ⟨v, rfl, v, true, rfl, hn, fun H' e => ⟨true, rfl, iteF (q H' e)⟩⟩
theorem ok_need_numbers {f f1 : Addr} {fd fd1 : FuncData} (T : Top mg) (F : FnP K "need_numbers" s_need_numbers f fd) (c_is_number : Cal P w K mg base CX0 1 "is_number" ["thing"] (spNum K) f1 fd1) : FnOk P w K mg base CX0 2 f fd ["one", "other"] (spNeed2 K) := by
  have sc := sc_need_numbers
  refine ok0 F sc (fun vs H Q E h => ?_) (fun cdv A outer s H vs Q E hr h => ?_)
  · obtain ⟨u, v, rfl, _⟩ := h
    rfl
  · obtain ⟨u, v, rfl, hn, hm, q⟩ := h
    refine ⟨_, (pss_one (ps_if (PW.pt (pw_or (pt_not (pt_val (pe_call c_is_number.ok (hr.mono (by decide)) (by rfl) c_is_number.m c_is_number.kp c_is_number.b .nil pass0 (pa_cons (pv 0) pa_nil)))) (pw_or1 (pt_not (pt_val (pe_call c_is_number.ok (hr.mono (by decide)) (by rfl) c_is_number.m c_is_number.kp c_is_number.b .nil pass0 (pa_cons (pv 1) pa_nil)))))))
      (pss_one ps_never) pss_nil)), ?_⟩
    exact ⟨u, rfl, u, true, rfl, hn, fun H1 e1 => ⟨true, rfl, iteF ⟨v, rfl, v, true, rfl, num_ex e1 hm, fun H2 e2 => ⟨true, rfl, iteF (q H2 (e1.trans e2))⟩⟩⟩⟩
theorem pmul_plain {a b : Int × Int} (ha : isNumB a.1 a.2 = true) (hb : isNumB b.1 b.2 = true) (h : a.1 * b.1 ≠ 0) : pmul a b = (a.1 * b.1, a.2 + b.2) := by
  have n1 : a.1 ≠ 0 := fun z => h (by rw [z, Int.zero_mul])
  have n2 : b.1 ≠ 0 := fun z => h (by rw [z, Int.mul_zero])
  have o1 := num_odd ha n1
  have o2 := num_odd hb n2
  refine nrm_self (odd_num ?_)
  rw [Int.mul_emod, o1, o2]
  rfl
theorem ok_multiplied {f : Addr} {fd : FuncData} (T : Top mg) (F : FnP K "multiplied" s_multiplied f fd) : FnOk P w K mg base CX0 1 f fd ["one", "other"] (spTwo K pmul) := by
  have sc := sc_multiplied
  refine ok0 F sc (fun vs H Q E h => ?_) (fun cdv A outer s H vs Q E hr h => ?_)
  · obtain ⟨u, v, a, b, rfl, _⟩ := h
    rfl
  · obtain ⟨u, v, a, b, rfl, ga, gb, q⟩ := h
    refine ⟨_, (pss_cons (ps_set (i := 2) sc.nd rfl (.inl rfl) (pe_op op_mulX (pe_ix ix_tup (pv 0) pe_int (fun _ _ => rfl)) (pe_ix ix_tup (pv 1) pe_int (fun _ _ => rfl))))
    (pss_one (ps_ret (pe_ifExp (pt_truth (pv 2) (fun _ => rfl)) (pe_tup (pa_cons (pv 2) (pa_cons (pe_op op_add (pe_ix ix_tup (pv 0) pe_int (fun _ _ => rfl)) (pe_ix ix_tup (pv 1) pe_int (fun _ _ => rfl))) pa_nil))) (pe_tup (pa_cons pe_int (pa_cons pe_int pa_nil))))))), ?_⟩
    obtain ⟨p, rfl, hp⟩ := ga.at_
    obtain ⟨r, rfl, hr2⟩ := gb.at_
    refine ⟨.ref p, rfl, p, [.int a.1, .int a.2], 0, .int a.1, rfl, rfl, hp, rfl, .ref r, rfl, r, [.int b.1, .int b.2], 0, .int b.1, rfl, rfl, hr2, rfl, a.1, b.1, rfl, rfl, mulx_ok ga.bd.1 gb.bd.1 (by unfold LIM; decide), ?_⟩
    refine ⟨.int (a.1 * b.1), rfl, _, rfl, ite2 (fun h1 => ?_) (fun h1 => ?_)⟩
    · have n1 : a.1 * b.1 ≠ 0 := bne_iff_ne.mp h1
      refine ⟨.int (a.1 * b.1), rfl, .ref p, rfl, p, [.int a.1, .int a.2], 1, .int a.2, rfl, rfl, hp, rfl, .ref r, rfl, r, [.int b.1, .int b.2], 1, .int b.2, rfl, rfl, hr2, rfl, a.2, b.2, rfl, rfl, by show 2 ≤ sizeLine; decide, fun t ht => ?_⟩
      refine q _ (.ref t) (Ex.new ht) ?_
      rw [pmul_plain ga.nb gb.nb n1]
      exact numAt_of upd_same
    · have e1 : a.1 * b.1 = 0 := Decidable.byContradiction fun z => h1 (bne_iff_ne.mpr z)
      refine ⟨by show 2 ≤ sizeLine; decide, fun t ht => q _ (.ref t) (Ex.new ht) ?_⟩
      have e2 : pmul a b = (0, 0) := by
        unfold pmul
        rw [e1]
        rfl
      rw [e2]
      exact numAt_of upd_same
theorem ok_times {f f1 f2 : Addr} {fd fd1 fd2 : FuncData} (T : Top mg) (F : FnP K "times" s_times f fd) (c_need_numbers : Cal P w K mg base CX0 2 "need_numbers" ["one", "other"] (spNeed2 K) f1 fd1) (c_multiplied : Cal P w K mg base CX0 1 "multiplied" ["one", "other"] (spTwo K pmul) f2 fd2) : FnOk P w K mg base CX0 3 f fd ["one", "other"] (spTwo K pmul) := by
  have sc := sc_times
  refine ok0 F sc (fun vs H Q E h => ?_) (fun cdv A outer s H vs Q E hr h => ?_)
  · obtain ⟨u, v, a, b, rfl, _⟩ := h
    rfl
  · obtain ⟨u, v, a, b, rfl, ga, gb, q⟩ := h
    refine ⟨_, (pss_cons (ps_expr (pe_call c_need_numbers.ok (hr.mono (by decide)) (by rfl) c_need_numbers.m c_need_numbers.kp c_need_numbers.b .nil pass0 (pa_cons (pv 0) (pa_cons (pv 1) pa_nil))))
    (pss_one (ps_ret (pe_call c_multiplied.ok (hr.mono (by decide)) (by rfl) c_multiplied.m c_multiplied.kp c_multiplied.b .nil pass0 (pa_cons (pv 0) (pa_cons (pv 1) pa_nil)))))), ?_⟩
    refine ⟨u, rfl, v, rfl, u, v, rfl, ga.num, gb.num, fun H1 e1 => ?_⟩
    exact ⟨u, rfl, v, rfl, u, v, a, b, rfl, ga.ex e1, gb.ex e1, fun H2 w e2 hw => q H2 w (e1.trans e2) hw⟩
theorem pord_plain {a b : Int × Int} (h : a.2 = b.2 ∨ a.1 = 0 ∨ b.1 = 0 ∨ decide (0 < a.1) ≠ decide (0 < b.1)) : pord a b = sgn (a.1 - b.1) := by
  have ea : min a.2 b.2 ≤ a.2 := by omega
  have eb : min a.2 b.2 ≤ b.2 := by omega
  rcases h with h | h | h | h
  · rw [pord_at (E := a.2) (by omega) (by omega)]
    unfold at_
    rw [show (a.2 - a.2).toNat = 0 by omega, show (b.2 - a.2).toNat = 0 by omega, Int.pow_zero, Int.mul_one, Int.mul_one]
  · rw [pord_at ea eb]
    generalize min a.2 b.2 = E at *
    have e1 : at_ a E = 0 := by
      unfold at_
      rw [h, Int.zero_mul]
    rw [e1, h, Int.zero_sub, Int.zero_sub, sgn_swap, sgn_swap, at_sgn]
  · rw [pord_at ea eb]
    generalize min a.2 b.2 = E at *
    have e1 : at_ b E = 0 := by
      unfold at_
      rw [h, Int.zero_mul]
    rw [e1, h, Int.sub_zero, Int.sub_zero, at_sgn]
  · rw [pord_at ea eb]
    generalize min a.2 b.2 = E at *
    have sa := at_sgn a E
    have sb := at_sgn b E
    by_cases p : 0 < a.1
    · have p2 : ¬ 0 < b.1 := fun z => h (by rw [decide_eq_true p, decide_eq_true z])
      rw [sgn_pos p] at sa
      have pa := sgn_of_pos sa
      rw [sgn_pos (show 0 < a.1 - b.1 by omega)]
      refine sgn_pos ?_
      rcases Int.lt_trichotomy b.1 0 with z | z | z
      · rw [sgn_neg z] at sb
        have := sgn_of_neg sb
        omega
      · rw [z] at sb
        have := sgn_of_zero sb
        omega
      · exact absurd z p2
    · have p2 : 0 < b.1 := by
        rcases Int.lt_trichotomy b.1 0 with z | z | z
        · exact absurd (by rw [decide_eq_false p, decide_eq_false (by omega)]) h
        · exact absurd (by rw [decide_eq_false p, decide_eq_false (by omega)]) h
        · exact z
      rw [sgn_pos p2] at sb
      have pb := sgn_of_pos sb
      rw [sgn_neg (show a.1 - b.1 < 0 by omega)]
      refine sgn_neg ?_
      rcases Int.lt_trichotomy a.1 0 with z | z | z
      · rw [sgn_neg z] at sa
        have := sgn_of_neg sa
        omega
      · rw [z] at sa
        have := sgn_of_zero sa
        omega
      · exact absurd z p
/-- of one sign, by their sizes -/
theorem pord_size {a b : Int × Int} (ha : a.1 ≠ 0) (hb : b.1 ≠ 0) (h : decide (0 < a.1) = decide (0 < b.1)) (hs : psize a ≠ psize b) : pord a b = if decide (psize b < psize a) = decide (0 < a.1) then 1 else -1 := by
  have hE : ∀ x y : Int × Int, (prank y).1 = (prank x).1 → (prank y).2 < (prank x).2 → pord x y = 1 := fun x y e l => rank_gt (.inr ⟨e, l⟩)
  by_cases p : 0 < a.1
  · have p2 : 0 < b.1 := of_decide_eq_true (h ▸ decide_eq_true p)
    have ra : prank a = (1, 1 * psize a) := by unfold prank; rw [sgn_pos p]
    have rb : prank b = (1, 1 * psize b) := by unfold prank; rw [sgn_pos p2]
    by_cases q : psize b < psize a
    · rw [decide_eq_true p, decide_eq_true q, if_pos rfl]
      exact hE a b (by rw [ra, rb]) (by rw [ra, rb]; show 1 * psize b < 1 * psize a; omega)
    · rw [decide_eq_true p, decide_eq_false q, if_neg (by decide), pord_swap b a, hE b a (by rw [ra, rb]) (by rw [ra, rb]; show 1 * psize a < 1 * psize b; omega)]
  · have p1 : a.1 < 0 := by omega
    have p2 : b.1 < 0 := by
      have : ¬ 0 < b.1 := fun z => p (of_decide_eq_true (h.trans (decide_eq_true z)))
      omega
    have ra : prank a = (-1, -1 * psize a) := by unfold prank; rw [sgn_neg p1]
    have rb : prank b = (-1, -1 * psize b) := by unfold prank; rw [sgn_neg p2]
    by_cases q : psize b < psize a
    · rw [decide_eq_false p, decide_eq_true q, if_neg (by decide), pord_swap b a, hE b a (by rw [ra, rb]) (by rw [ra, rb]; show -1 * psize a < -1 * psize b; omega)]
    · rw [decide_eq_false p, decide_eq_false q, if_pos rfl]
      exact hE a b (by rw [ra, rb]) (by rw [ra, rb]; show -1 * psize b < -1 * psize a; omega)
theorem sgn_if (x y : Int) : sgn (x - y) = if x = y then 0 else if y < x then 1 else -1 := by
  by_cases h : x = y
  · rw [if_pos h, h, Int.sub_self]
    rfl
  · rw [if_neg h]
    by_cases l : y < x
    · rw [if_pos l, sgn_pos (by omega)]
    · rw [if_neg l, sgn_neg (by omega)]
theorem ok_compared {f : Addr} {fd : FuncData} (T : Top mg) (F : FnP K "compared" s_compared f fd) : FnOk P w K mg base CX0 1 f fd ["one", "other"] (spOrd K) := by
  have sc := sc_compared
  refine ok0 F sc (fun vs H Q E h => ?_) (fun cdv A outer s H vs Q E hr h => ?_)
  · obtain ⟨u, v, a, b, rfl, _⟩ := h
    rfl
  · obtain ⟨u, v, a, b, rfl, ga, gb, q⟩ := h
    have q := q H (Ex.refl H)
    refine ⟨_, (pss_cons (ps_asg (pv 0) (pg_tup rfl (pgs_cons (pg_name (i := 2) sc.nd rfl (.inl rfl)) (pgs_cons (pg_name (i := 3) sc.nd rfl (.inl rfl)) pgs_nil))))
    (pss_cons (ps_asg (pv 1) (pg_tup rfl (pgs_cons (pg_name (i := 4) sc.nd rfl (.inl rfl)) (pgs_cons (pg_name (i := 5) sc.nd rfl (.inl rfl)) pgs_nil))))
    (pss_cut (ps_if (PW.pt (pw_and (pt_cmpR op_ne (pv 3) (pv 5) (nomark _)) (pw_and (pt_truth (pv 2) (fun _ => rfl)) (pw_and (pt_truth (pv 4) (fun _ => rfl)) (pw_and1 (pt_cmpR op_eq (pe_cmpR op_gt (pv 2) pe_int (nomark _)) (pe_cmpR op_gt (pv 4) pe_int (nomark _)) (nomark _)))))))
      (pss_cons (ps_par (by rfl) sc.nd (i := 6) (j := 7) rfl rfl (by decide) rfl rfl (pa_cons (pe_op op_add (pe_bits (pv 2)) (pv 3)) (pa_cons (pe_op op_add (pe_bits (pv 4)) (pv 5)) pa_nil)) (by rfl))
      (pss_cons (ps_if (pt_cmpR op_ne (pv 6) (pv 7) (nomark _))
        (pss_one (ps_ret (pe_ifExp (pt_cmpR op_eq (pe_cmpR op_gt (pv 6) (pv 7) (nomark _)) (pe_cmpR op_gt (pv 2) pe_int (nomark _)) (nomark _)) pe_int (pe_un un_neg pe_int)))) pss_nil)
      (pss_one (ps_if (pt_cmpR op_gt (pv 3) (pv 5) (nomark _))
        (pss_one (ps_aug (i := 2) sc.nd rfl (.inl rfl) (pe_op op_sub (pv 3) (pv 5)) iop_shlW)) (pss_one (ps_aug (i := 4) sc.nd rfl (.inl rfl) (pe_op op_sub (pv 5) (pv 3)) iop_shlW)))))) pss_nil)
    (pss_cons (ps_if (pt_cmpR op_eq (pv 2) (pv 4) (nomark _))
      (pss_one (ps_ret pe_int)) pss_nil)
    (pss_one (ps_ret (pe_ifExp (pt_cmpR op_gt (pv 2) (pv 4) (nomark _)) pe_int (pe_un un_neg pe_int)))))))), ?_⟩
    obtain ⟨p, rfl, hp⟩ := ga.at_
    obtain ⟨r, rfl, hr2⟩ := gb.at_
    have ba := ga.bd
    have bb := gb.bd
    have ba2 := ba.2
    have bb2 := bb.2
    refine ⟨.ref p, rfl, p, [.int a.1, .int a.2], rfl, hp, rfl, .int a.1, [.int a.2], rfl, .int a.2, [], rfl, rfl, ?_⟩
    refine ⟨.ref r, rfl, r, [.int b.1, .int b.2], rfl, hr2, rfl, .int b.1, [.int b.2], rfl, .int b.2, [], rfl, rfl, ?_⟩
    refine ⟨fun σ' H' => H' = H ∧ ∃ (x y : Int) (t u : Option V), σ' = [some (.ref p), some (.ref r), some (.int x), some (.int a.2), some (.int y), some (.int b.2), t, u] ∧ sgn (x - y) = pord a b, ?_, fun σ' H' hm => ?_⟩
    · refine ⟨.int a.2, rfl, .int b.2, rfl, rfl, _, rfl, ite2 (fun h1 => ?_) (fun h1 => ?_)⟩
      · have n1 : a.2 ≠ b.2 := fun z => by
          rw [decide_eq_true (congrArg V.int z)] at h1
          cases h1
        refine ⟨.int a.1, rfl, _, rfl, ite2 (fun h2 => ?_) (fun h2 => ?_)⟩
        · have n2 : a.1 ≠ 0 := by simpa using h2
          refine ⟨.int b.1, rfl, _, rfl, ite2 (fun h3 => ?_) (fun h3 => ?_)⟩
          · have n3 : b.1 ≠ 0 := by simpa using h3
            refine ⟨.int a.1, rfl, a.1, 0, rfl, rfl, .int b.1, rfl, b.1, 0, rfl, rfl, rfl, _, rfl, ite2 (fun h4 => ?_) (fun h4 => ?_)⟩
            · have e4 : decide (0 < a.1) = decide (0 < b.1) := V.bl.inj (of_decide_eq_true h4)
              have pa : ((Builtin.Int.intBits a.1 : Nat) : Int) + a.2 = psize a + 1 := by unfold psize; omega
              have pb : ((Builtin.Int.intBits b.1 : Nat) : Int) + b.2 = psize b + 1 := by unfold psize; omega
              refine ⟨.int a.1, rfl, a.1, rfl, .int a.2, rfl, _, _, rfl, rfl, .int b.1, rfl, b.1, rfl, .int b.2, rfl, _, _, rfl, rfl, .int (psize a + 1), .int (psize b + 1), by rw [← pa, ← pb], ?_⟩
              refine ⟨.int (psize a + 1), rfl, .int (psize b + 1), rfl, rfl, _, rfl, ite2 (fun h5 => ?_) (fun h5 => ?_)⟩
              · have n5 : psize a ≠ psize b := fun z => by
                  rw [decide_eq_true (show V.int (psize a + 1) = V.int (psize b + 1) by rw [z])] at h5
                  cases h5
                rw [pord_size n2 n3 e4 n5] at q
                refine ⟨.int (psize a + 1), rfl, .int (psize b + 1), rfl, _, _, rfl, rfl, .int a.1, rfl, a.1, 0, rfl, rfl, rfl, _, rfl, ?_⟩
                have e6 : decide (psize b + 1 < psize a + 1) = decide (psize b < psize a) := decide_eq_decide.mpr ⟨fun z => by omega, fun z => by omega⟩
                refine ite2 (fun h6 => ?_) (fun h6 => ?_)
                · have e7 := V.bl.inj (of_decide_eq_true h6)
                  rw [e6] at e7
                  rw [if_pos e7] at q
                  exact q
                · have e7 : ¬ decide (psize b < psize a) = decide (0 < a.1) := fun z => h6 (decide_eq_true (by show V.bl (decide (psize b + 1 < psize a + 1)) = V.bl (decide (0 < a.1)); rw [e6, z]))
                  rw [if_neg e7] at q
                  exact ⟨1, rfl, q⟩
              · refine ⟨.int a.2, rfl, .int b.2, rfl, a.2, b.2, rfl, rfl, _, rfl, ite2 (fun h6 => ?_) (fun h6 => ?_)⟩
                · have l6 : b.2 < a.2 := of_decide_eq_true h6
                  refine ⟨.int a.1, rfl, .int a.2, rfl, .int b.2, rfl, a.2, b.2, rfl, rfl, a.1, _, rfl, rfl, ?_, rfl, _, _, _, _, rfl, ?_⟩
                  · have hs : a.2 - b.2 = ((a.2 - b.2).toNat : Int) := by omega
                    show CShl a.1 (a.2 - b.2)
                    rw [hs]
                    exact shl_ok ba.1 (by unfold LIM at *; omega)
                  · rw [pord_at (E := b.2) (by omega) (by omega)]
                    unfold at_
                    rw [show (b.2 - b.2).toNat = 0 by omega, Int.pow_zero, Int.mul_one]
                · have l6 : a.2 < b.2 := by
                    have : ¬ b.2 < a.2 := fun z => h6 (decide_eq_true z)
                    omega
                  refine ⟨.int b.1, rfl, .int b.2, rfl, .int a.2, rfl, b.2, a.2, rfl, rfl, b.1, _, rfl, rfl, ?_, rfl, _, _, _, _, rfl, ?_⟩
                  · have hs : b.2 - a.2 = ((b.2 - a.2).toNat : Int) := by omega
                    show CShl b.1 (b.2 - a.2)
                    rw [hs]
                    exact shl_ok bb.1 (by unfold LIM at *; omega)
                  · rw [pord_at (E := a.2) (by omega) (by omega)]
                    unfold at_
                    rw [show (a.2 - a.2).toNat = 0 by omega, Int.pow_zero, Int.mul_one]
            · refine ⟨rfl, a.1, b.1, _, _, rfl, (pord_plain (.inr (.inr (.inr fun z => h4 (decide_eq_true (congrArg V.bl z)))))).symm⟩
          · have e3 : b.1 = 0 := by simpa using h3
            exact iteF ⟨rfl, a.1, b.1, _, _, rfl, (pord_plain (.inr (.inr (.inl e3)))).symm⟩
        · have e2 : a.1 = 0 := by simpa using h2
          exact iteF ⟨rfl, a.1, b.1, _, _, rfl, (pord_plain (.inr (.inl e2))).symm⟩
      · have e1 : a.2 = b.2 := by
          by_cases z : a.2 = b.2
          · exact z
          · exact absurd (by rw [decide_eq_false (fun y => z (V.int.inj y))]; rfl) h1
        exact iteF ⟨rfl, a.1, b.1, _, _, rfl, (pord_plain (.inl e1)).symm⟩
    · obtain ⟨rfl, x, y, t, u, rfl, e⟩ := hm
      rw [← e, sgn_if] at q
      refine ⟨.int x, rfl, .int y, rfl, rfl, _, rfl, ite2 (fun h1 => ?_) (fun h1 => ?_)⟩
      · rw [if_pos (V.int.inj (of_decide_eq_true h1))] at q
        exact q
      · rw [if_neg (fun z => h1 (decide_eq_true (congrArg V.int z)))] at q
        refine ⟨.int x, rfl, .int y, rfl, x, y, rfl, rfl, _, rfl, ite2 (fun h2 => ?_) (fun h2 => ?_)⟩
        · rw [if_pos (of_decide_eq_true h2)] at q
          exact q
        · rw [if_neg (fun z => h2 (decide_eq_true z))] at q
          exact ⟨1, rfl, q⟩
theorem ok_size_of {f : Addr} {fd : FuncData} (T : Top mg) (F : FnP K "size_of" s_size_of f fd) : FnOk P w K mg base CX0 1 f fd ["number"] (spSize K) := by
  have sc := sc_size_of
  refine ok0 F sc (fun vs H Q E h => ?_) (fun cdv A outer s H vs Q E hr h => ?_)
  · obtain ⟨v, n, rfl, _⟩ := h
    rfl
  · obtain ⟨v, n, rfl, ⟨a, rfl, ha⟩, q⟩ := h
    refine ⟨_, (pss_one (ps_ret (pe_op op_add (pe_op op_sub (pe_bits (pe_ix ix_tup (pv 0) pe_int (fun _ _ => rfl))) pe_int) (pe_ix ix_tup (pv 0) pe_int (fun _ _ => rfl))))), ?_⟩
    exact ⟨.ref a, rfl, a, [.int n.1, .int n.2], 0, .int n.1, rfl, rfl, ha, rfl, n.1, rfl, _, 1, rfl, rfl, .ref a, rfl, a, [.int n.1, .int n.2], 1, .int n.2, rfl, rfl, ha, rfl, _, _, rfl, rfl, q⟩
theorem ok_need_word {f FA : Addr} {fd : FuncData} (T : Top mg) (F : FnP K "need_word" s_need_word f fd) : FnOk P w K mg base CX0 1 f fd ["thing", "words"] (spNeedWd K FA) := by
  have sc := sc_need_word
  refine ok0 F sc (fun vs H Q E h => ?_) (fun cdv A outer s H vs Q E hr h => ?_)
  · obtain ⟨w, rfl, _⟩ := h
    rfl
  · obtain ⟨w, rfl, hS, hw, q⟩ := h
    refine ⟨_, (pss_one (ps_if (pt_cmpR op_notIn_seq (pv 0) (pv 1) (by with_unfolding_all rfl))
      (pss_one ps_never) pss_nil)), ?_⟩
    refine ⟨.str w, rfl, .ref FA, rfl, FA, _, rfl, .inr hS, rfl, by decide +kernel, ?_⟩
    rw [in_fns hw]
    exact ⟨false, rfl, iteF q⟩
theorem ok_is_between {f f1 : Addr} {fd fd1 : FuncData} (T : Top mg) (F : FnP K "is_between" s_is_between f fd) (c_compared : Cal P w K mg base CX0 1 "compared" ["one", "other"] (spOrd K) f1 fd1) : FnOk P w K mg base CX0 2 f fd ["number", "least", "most"] (spBetw K) := by
  have sc := sc_is_between
  refine ok0 F sc (fun vs H Q E h => ?_) (fun cdv A outer s H vs Q E hr h => ?_)
  · obtain ⟨u, v, z, n, a, b, rfl, _⟩ := h
    rfl
  · obtain ⟨u, v, z, n, a, b, rfl, gu, gv, gz, q⟩ := h
    refine ⟨_, (pss_one (ps_ret (pe_and (pe_cmpR op_le (pe_call c_compared.ok (hr.mono (by decide)) (by rfl) c_compared.m c_compared.kp c_compared.b .nil pass0 (pa_cons (pv 1) (pa_cons (pv 0) pa_nil))) pe_int (nomark _)) (pe_one (pe_cmpR op_le (pe_call c_compared.ok (hr.mono (by decide)) (by rfl) c_compared.m c_compared.kp c_compared.b .nil pass0 (pa_cons (pv 0) (pa_cons (pv 2) pa_nil))) pe_int (nomark _)))))), ?_⟩
    refine o_ret ((ev_andV (ev_op (ev_ord (evn_var (i := 1) rfl gv) (evn_var (i := 0) rfl gu) (by decide)) ev_c rv_I0) (fun _ => ev_op (ev_ord (evn_var (i := 0) rfl gu) (evn_var (i := 2) rfl gz) (by decide)) ev_c rv_I0)) H (Ex.refl H) _ fun H2 e2 => q H2 e2)
theorem ok_is_place {f f1 f2 : Addr} {fd fd1 fd2 : FuncData} {tM : Tok} (T : Top mg) (m_MOST_SIZE : mg "MOST_SIZE" = some (.int 800 tM)) (F : FnP K "is_place" s_is_place f fd) (c_is_between : Cal P w K mg base CX0 2 "is_between" ["number", "least", "most"] (spBetw K) f1 fd1) (c_size_of : Cal P w K mg base CX0 1 "size_of" ["number"] (spSize K) f2 fd2) : FnOk P w K mg base CX0 3 f fd ["word", "number"] (spIsPl K) := by
  have sc := sc_is_place
  refine ok0 F sc (fun vs H Q E h => ?_) (fun cdv A outer s H vs Q E hr h => ?_)
  · obtain ⟨w, v, n, rfl, _⟩ := h
    rfl
  · obtain ⟨w, v, n, rfl, gv, ⟨p1, p2, p3, p4⟩, q⟩ := h
    refine ⟨_, (pss_cons (ps_if (pt_cmpR op_eq (pv 0) pe_str (nomark _))
      (pss_one (ps_ret (pe_cmpR op_ge (pe_ix ix_tup (pv 1) pe_int (fun _ _ => rfl)) pe_int (nomark _)))) pss_nil)
    (pss_cons (ps_if (pt_cmpR op_eq (pv 0) pe_str (nomark _))
      (pss_one (ps_ret (pe_cmpR op_gt (pe_ix ix_tup (pv 1) pe_int (fun _ _ => rfl)) pe_int (nomark _)))) pss_nil)
    (pss_cons (ps_if (pt_cmpR op_eq (pv 0) pe_str (nomark _))
      (pss_one (ps_ret (pe_call c_is_between.ok (hr.mono (by decide)) (by rfl) c_is_between.m c_is_between.kp c_is_between.b .nil pass0 (pa_cons (pv 1) (pa_cons (pe_tup (pa_cons (pe_un un_neg pe_int) (pa_cons pe_int pa_nil))) (pa_cons (pe_tup (pa_cons pe_int (pa_cons pe_int pa_nil))) pa_nil)))))) pss_nil)
    (pss_one (ps_ret (pe_or (pe_cmpR op_eq (pe_ix ix_tup (pv 1) pe_int (fun _ _ => rfl)) pe_int (nomark _)) (pe_one (pe_cmpR op_lt (pe_call c_size_of.ok (hr.mono (by decide)) (by rfl) c_size_of.m c_size_of.kp c_size_of.b .nil pass0 (pa_cons (pv 1) pa_nil)) (pe_glob (v := .int 800) (by rfl) m_MOST_SIZE ⟨_, rfl⟩) (nomark _))))))))), ?_⟩
    obtain ⟨r, rfl, hr1⟩ := gv.at_
    refine ⟨.str w, rfl, rfl, _, rfl, ite2 (fun h1 => ?_) (fun h1 => ?_)⟩
    · have e1 := p1 (V.str.inj (of_decide_eq_true h1))
      have q := q H (Ex.refl H)
      refine ⟨.ref r, rfl, r, [.int n.1, .int n.2], 0, .int n.1, rfl, rfl, hr1, rfl, n.1, 0, rfl, rfl, ?_⟩
      show Q (.bl (decide (0 ≤ n.1))) H
      rw [decide_eq_true e1]
      exact q
    have n1 : w ≠ "root" := fun z => h1 (decide_eq_true (congrArg V.str z))
    refine ⟨.str w, rfl, rfl, _, rfl, ite2 (fun h2 => ?_) (fun h2 => ?_)⟩
    · have e1 := p2 (V.str.inj (of_decide_eq_true h2))
      have q := q H (Ex.refl H)
      refine ⟨.ref r, rfl, r, [.int n.1, .int n.2], 0, .int n.1, rfl, rfl, hr1, rfl, n.1, 0, rfl, rfl, ?_⟩
      show Q (.bl (decide (0 < n.1))) H
      rw [decide_eq_true e1]
      exact q
    have n2 : w ≠ "log" := fun z => h2 (decide_eq_true (congrArg V.str z))
    refine ⟨.str w, rfl, rfl, _, rfl, ite2 (fun h3 => ?_) (fun h3 => ?_)⟩
    · obtain ⟨e1, e2⟩ := p3 (V.str.inj (of_decide_eq_true h3))
      refine ⟨.ref r, rfl, (evn_lit (K := K) (B := 3000) (m := -125) (e := 3) (σ := [some (.str w), some (.ref r)]) (H := H) (ev_un ev_c ru_neg) ev_c (by decide) ⟨by decide +kernel, by decide⟩) H (Ex.refl H) _ fun v1 H1 x1 g1 => ?_⟩
      refine (evn_lit (K := K) (B := 3000) (m := 125) (e := 3) (σ := [some (.str w), some (.ref r)]) (H := H1) ev_c ev_c (by decide) ⟨by decide +kernel, by decide⟩) H1 (Ex.refl H1) _ fun v2 H2 x2 g2 => ?_
      refine ⟨.ref r, v1, v2, n, (-125, 3), (125, 3), rfl, (gv.ex x1).ex x2, g1.ex x2, g2, fun H3 x3 => ?_⟩
      rw [decide_eq_true e1, decide_eq_true e2]
      exact q H3 ((x1.trans x2).trans x3)
    have n3 : w ≠ "exp" := fun z => h3 (decide_eq_true (congrArg V.str z))
    have q := q H (Ex.refl H)
    refine ⟨.ref r, rfl, r, [.int n.1, .int n.2], 0, .int n.1, rfl, rfl, hr1, rfl, rfl, _, rfl, ite2 (fun _ => q) (fun h4 => ?_)⟩
    have n4 : n.1 ≠ 0 := fun z => h4 (decide_eq_true (congrArg V.int z))
    have e4 : psize n < 800 := by rcases p4 n1 n2 n3 with z | z; (exact absurd z n4); (exact z)
    refine ⟨.ref r, rfl, .ref r, n, rfl, ⟨r, rfl, hr1⟩, _, 800, rfl, rfl, ?_⟩
    show Q (.bl (decide (psize n < 800))) H
    rw [decide_eq_true e4]
    exact q
theorem ok_need_place {f f1 : Addr} {fd fd1 : FuncData} (T : Top mg) (F : FnP K "need_place" s_need_place f fd) (c_is_place : Cal P w K mg base CX0 3 "is_place" ["word", "number"] (spIsPl K) f1 fd1) : FnOk P w K mg base CX0 4 f fd ["word", "number"] (spNeedPl K) := by
  have sc := sc_need_place
  refine ok0 F sc (fun vs H Q E h => ?_) (fun cdv A outer s H vs Q E hr h => ?_)
  · obtain ⟨w, v, n, rfl, _⟩ := h
    rfl
  · obtain ⟨w, v, n, rfl, gv, hp, q⟩ := h
    refine ⟨_, (pss_one (ps_if (pt_not (pt_val (pe_call c_is_place.ok (hr.mono (by decide)) (by rfl) c_is_place.m c_is_place.kp c_is_place.b .nil pass0 (pa_cons (pv 0) (pa_cons (pv 1) pa_nil)))))
      (pss_one ps_never) pss_nil)), ?_⟩
    exact ⟨.str w, rfl, v, rfl, w, v, n, rfl, gv, hp, fun H1 e1 => ⟨true, rfl, iteF (q H1 e1)⟩⟩
theorem ok_exact_root {f f1 : Addr} {fd fd1 : FuncData} (T : Top mg) (F : FnP K "exact_root" s_exact_root f fd) (c_floor_root : Cal P w K mg base CX0 1 "floor_root" ["whole"] spFRoot f1 fd1) : FnOk P w K mg base CX0 2 f fd ["number"] (spExR K) := by
  have sc := sc_exact_root
  refine ok0 F sc (fun vs H Q E h => ?_) (fun cdv A outer s H vs Q E hr h => ?_)
  · obtain ⟨v, n, rfl, _⟩ := h
    rfl
  · obtain ⟨v, n, rfl, gv, h0, q⟩ := h
    refine ⟨_, (pss_cons (ps_asg (pv 0) (pg_tup rfl (pgs_cons (pg_name (i := 1) sc.nd rfl (.inl rfl)) (pgs_cons (pg_name (i := 2) sc.nd rfl (.inl rfl)) pgs_nil))))
    (pss_cons (ps_if (pt_truth (pe_op op_and1 (pv 2) pe_int) (fun _ => rfl))
      (pss_one (ps_ret pe_non)) pss_nil)
    (pss_cons (ps_set (i := 3) sc.nd rfl (.inl rfl) (pe_call c_floor_root.ok (hr.mono (by decide)) (by rfl) c_floor_root.m c_floor_root.kp c_floor_root.b .nil pass0 (pa_cons (pv 1) pa_nil)))
    (pss_one (ps_ret (pe_ifExp (pt_cmpR op_eq (pe_op op_mulX (pv 3) (pv 3)) (pv 1) (nomark _)) (pe_tup (pa_cons (pv 3) (pa_cons (pe_op op_shrN (pv 2) pe_int) pa_nil))) pe_non)))))), ?_⟩
    obtain ⟨r, rfl, hr1⟩ := gv.at_
    refine ⟨.ref r, rfl, r, [.int n.1, .int n.2], rfl, hr1, rfl, .int n.1, [.int n.2], rfl, .int n.2, [], rfl, rfl, ?_⟩
    refine ⟨.int n.2, rfl, rfl, .inl ⟨n.2, rfl, _, rfl, ite2 (fun h1 => ?_) (fun h1 => ?_)⟩⟩
    · have e1 : n.2 % 2 = 1 := by
        have : n.2 % 2 ≠ 0 := bne_iff_ne.mp h1
        omega
      refine q H .non (Ex.refl H) ?_
      unfold exRoot
      rw [if_pos e1]
      rfl
    · have e1 : ¬ n.2 % 2 = 1 := fun z => h1 (by rw [z]; rfl)
      have hb : n.1.natAbs < 2 ^ 8000 := Nat.lt_of_lt_of_le gv.bd.1 (Nat.pow_le_pow_right (by decide) (by decide))
      refine ⟨.int n.1, rfl, n.1, rfl, h0, hb, fun H1 x1 => ?_⟩
      have fb := froot_abs h0 hb
      refine ⟨.int (froot n.1), rfl, .int (froot n.1), rfl, froot n.1, froot n.1, rfl, rfl, mulx_ok fb fb (by decide), .int n.1, rfl, rfl, _, rfl, ite2 (fun h2 => ?_) (fun h2 => ?_)⟩
      · have e2 : froot n.1 * froot n.1 = n.1 := V.int.inj (of_decide_eq_true h2)
        refine ⟨.int (froot n.1), rfl, .int n.2, rfl, n.2, 1, rfl, rfl, by show 2 ≤ sizeLine; decide, fun p hp => q _ (.ref p) (x1.trans (Ex.new hp)) ?_⟩
        unfold exRoot
        rw [if_neg e1, if_pos e2]
        exact numAt_of upd_same
      · have e2 : ¬ froot n.1 * froot n.1 = n.1 := fun z => h2 (decide_eq_true (congrArg V.int z))
        refine q H1 .non x1 ?_
        unfold exRoot
        rw [if_neg e1, if_neg e2]
        rfl
theorem ok_exact_at {f f1 : Addr} {fd fd1 : FuncData} (T : Top mg) (F : FnP K "exact_at" s_exact_at f fd) (c_exact_root : Cal P w K mg base CX0 2 "exact_root" ["number"] (spExR K) f1 fd1) : FnOk P w K mg base CX0 3 f fd ["word", "number"] (spExA K) := by
  have sc := sc_exact_at
  refine ok0 F sc (fun vs H Q E h => ?_) (fun cdv A outer s H vs Q E hr h => ?_)
  · obtain ⟨w, v, n, rfl, _⟩ := h
    rfl
  · obtain ⟨w, v, n, rfl, gv, ⟨p1, p2, p3, p4⟩, q⟩ := h
    refine ⟨_, (pss_cons (ps_if (pt_cmpR op_eq (pv 0) pe_str (nomark _))
      (pss_one (ps_ret (pe_call c_exact_root.ok (hr.mono (by decide)) (by rfl) c_exact_root.m c_exact_root.kp c_exact_root.b .nil pass0 (pa_cons (pv 1) pa_nil)))) pss_nil)
    (pss_cons (ps_if (pt_cmpR op_eq (pv 0) pe_str (nomark _))
      (pss_one (ps_ret (pe_ifExp (pt_cmpR (op_eqD hr.units) (pv 1) (pe_tup (pa_cons pe_int (pa_cons pe_int pa_nil))) (nomark _)) (pe_tup (pa_cons pe_int (pa_cons pe_int pa_nil))) pe_non))) pss_nil)
    (pss_cons (ps_if (pt_cmpR (op_neD hr.units) (pv 1) (pe_tup (pa_cons pe_int (pa_cons pe_int pa_nil))) (nomark _))
      (pss_one (ps_ret pe_non)) pss_nil)
    (pss_one (ps_ret (pe_ifExp (pt_cmpR op_in_seq (pv 0) (pe_tup (pa_cons pe_str (pa_cons pe_str pa_nil))) (by with_unfolding_all rfl)) (pe_tup (pa_cons pe_int (pa_cons pe_int pa_nil))) (pe_tup (pa_cons pe_int (pa_cons pe_int pa_nil))))))))), ?_⟩
    unfold exW at q
    refine ⟨.str w, rfl, rfl, _, rfl, ite2 (fun h1 => ?_) (fun h1 => ?_)⟩
    · have e1 : w = "root" := V.str.inj (of_decide_eq_true h1)
      rw [if_pos e1] at q
      exact ⟨v, rfl, v, n, rfl, gv, p1 e1, q⟩
    have n1 : w ≠ "root" := fun z => h1 (decide_eq_true (congrArg V.str z))
    rw [if_neg n1] at q
    refine ⟨.str w, rfl, rfl, _, rfl, ite2 (fun h2 => ?_) (fun h2 => ?_)⟩
    · have e1 : w = "log" := V.str.inj (of_decide_eq_true h2)
      rw [if_pos e1] at q
      refine (et_test (evb_eq (evn_var (σ := [some (.str w), some v]) (i := 1) rfl gv) (evn_lit (B := 1) (m := 1) (e := 0) ev_c ev_c rfl ⟨by decide, by decide⟩))) H (Ex.refl H) _ fun H1 x1 => ite2 (fun h3 => ?_) (fun h3 => ?_)
      · rw [if_pos (of_decide_eq_true h3)] at q
        exact ⟨by show 2 ≤ sizeLine; decide, fun p hp => q _ (.ref p) (x1.trans (Ex.new hp)) (numAt_of upd_same)⟩
      · rw [if_neg (fun z => h3 (decide_eq_true z))] at q
        exact q H1 .non x1 rfl
    have n2 : w ≠ "log" := fun z => h2 (decide_eq_true (congrArg V.str z))
    rw [if_neg n2] at q
    refine (et_test (evb_ne (evn_var (σ := [some (.str w), some v]) (i := 1) rfl gv) (evn_lit (B := 1) (m := 0) (e := 0) ev_c ev_c rfl ⟨by decide, by decide⟩))) H (Ex.refl H) _ fun H1 x1 => ite2 (fun h3 => ?_) (fun h3 => ?_)
    · have n3 : n ≠ (0, 0) := fun z => by
        rw [decide_eq_true z] at h3
        cases h3
      rw [if_pos n3] at q
      exact q H1 .non x1 rfl
    · have e3 : ¬ n ≠ (0, 0) := fun z => h3 (by rw [decide_eq_false z]; rfl)
      rw [if_neg e3] at q
      refine ⟨.str w, rfl, by show 2 ≤ sizeLine; decide, fun p hp => ?_⟩
      refine ⟨p, _, rfl, .inr (st_of upd_same), rfl, rfl, _, rfl, ite2 (fun h4 => ?_) (fun h4 => ?_)⟩
      · have e4 : w = "exp" ∨ w = "cos" := in_two h4
        rw [if_pos e4] at q
        exact ⟨by show 2 ≤ sizeLine; decide, fun r hr1 => q _ (.ref r) ((x1.trans (Ex.new hp)).trans (Ex.new hr1)) (numAt_of upd_same)⟩
      · have e4 : ¬ (w = "exp" ∨ w = "cos") := fun z => h4 (two_in z)
        rw [if_neg e4] at q
        exact ⟨by show 2 ≤ sizeLine; decide, fun r hr1 => q _ (.ref r) ((x1.trans (Ex.new hp)).trans (Ex.new hr1)) (numAt_of upd_same)⟩
theorem ok_exact_worth {f f1 f2 f3 f4 FA : Addr} {fd fd1 fd2 fd3 fd4 : FuncData} (T : Top mg) (WD : Wd mg K FA) (F : FnP K "exact_worth" s_exact_worth f fd) (c_need_word : Cal P w K mg base CX0 1 "need_word" ["thing", "words"] (spNeedWd K FA) f1 fd1) (c_need_number : Cal P w K mg base CX0 2 "need_number" ["thing"] (spNeed K) f2 fd2) (c_need_place : Cal P w K mg base CX0 4 "need_place" ["word", "number"] (spNeedPl K) f3 fd3) (c_exact_at : Cal P w K mg base CX0 3 "exact_at" ["word", "number"] (spExA K) f4 fd4) : FnOk P w K mg base CX0 5 f fd ["word", "number"] (spExW K) := by
  have sc := sc_exact_worth
  refine ok0 F sc (fun vs H Q E h => ?_) (fun cdv A outer s H vs Q E hr h => ?_)
  · obtain ⟨w, v, n, rfl, _⟩ := h
    rfl
  · obtain ⟨w, v, n, rfl, hw, gv, hp, q⟩ := h
    refine ⟨_, (pss_cons (ps_expr (pe_call c_need_word.ok (hr.mono (by decide)) (by rfl) c_need_word.m c_need_word.kp c_need_word.b .nil pass0 (pa_cons (pv 0) (pa_cons (pe_glob (v := .ref FA) (by rfl) WD.m rfl) pa_nil))))
    (pss_cons (ps_expr (pe_call c_need_number.ok (hr.mono (by decide)) (by rfl) c_need_number.m c_need_number.kp c_need_number.b .nil pass0 (pa_cons (pv 1) pa_nil)))
    (pss_cons (ps_expr (pe_call c_need_place.ok (hr.mono (by decide)) (by rfl) c_need_place.m c_need_place.kp c_need_place.b .nil pass0 (pa_cons (pv 0) (pa_cons (pv 1) pa_nil))))
    (pss_one (ps_ret (pe_call c_exact_at.ok (hr.mono (by decide)) (by rfl) c_exact_at.m c_exact_at.kp c_exact_at.b .nil pass0 (pa_cons (pv 0) (pa_cons (pv 1) pa_nil)))))))), ?_⟩
    refine ⟨.str w, rfl, w, rfl, WD.t H, hw, ?_⟩
    refine ⟨v, rfl, v, rfl, gv.num, fun H1 x1 => ?_⟩
    refine ⟨.str w, rfl, v, rfl, w, v, n, rfl, gv.ex x1, hp, fun H2 x2 => ?_⟩
    exact ⟨.str w, rfl, v, rfl, w, v, n, rfl, (gv.ex x1).ex x2, hp, fun H3 z x3 hz => q H3 z ((x1.trans x2).trans x3) hz⟩
theorem optAt_not {K : PySem.W.Frag} {H : Hp} {v : V} {o : Option (Int × Int)} (h : OptAt K H v o) : (!decide (v = V.non)) = o.isSome := by
  cases o with
  | none =>
    rw [show v = .non from h]
    rfl
  | some n =>
    obtain ⟨a, rfl, _⟩ := h
    rfl
theorem ok_is_exact {f f1 : Addr} {fd fd1 : FuncData} (T : Top mg) (F : FnP K "is_exact" s_is_exact f fd) (c_exact_worth : Cal P w K mg base CX0 5 "exact_worth" ["word", "number"] (spExW K) f1 fd1) : FnOk P w K mg base CX0 6 f fd ["word", "number"] (spIsEx K) := by
  have sc := sc_is_exact
  refine ok0 F sc (fun vs H Q E h => ?_) (fun cdv A outer s H vs Q E hr h => ?_)
  · obtain ⟨w, v, n, rfl, _⟩ := h
    rfl
  · obtain ⟨w, v, n, rfl, hw, gv, hp, q⟩ := h
    refine ⟨_, (pss_one (ps_ret (pe_cmpR op_notN (pe_call c_exact_worth.ok (hr.mono (by decide)) (by rfl) c_exact_worth.m c_exact_worth.kp c_exact_worth.b .nil pass0 (pa_cons (pv 0) (pa_cons (pv 1) pa_nil))) pe_non (nomark _)))), ?_⟩
    refine ⟨.str w, rfl, v, rfl, w, v, n, rfl, hw, gv, hp, fun H1 z x1 hz => ⟨rfl, ?_⟩⟩
    rw [optAt_not hz]
    exact q H1 x1
theorem ok_law_mixed {f : Addr} {fd : FuncData} (T : Top mg) (F : FnP K "_law_mixed" s_law_mixed f fd) : FnOk P w K mg base CX0 1 f fd ["_law_cell_here", "_law_k"] spMix := by
  have sc := sc_law_mixed
  refine ok0 F sc (fun vs H Q E h => ?_) (fun cdv A outer s H vs Q E hr h => ?_)
  · obtain ⟨a, k, rfl, _⟩ := h
    rfl
  · obtain ⟨a, k, rfl, q⟩ := h
    refine ⟨_, (pss_cons (ps_set (i := 2) sc.nd rfl (.inl rfl) (pe_op op_mod (pe_op op_add (pe_op op_add (pe_op op_mul (pe_op op_mod (pv 0) pe_int) pe_int) (pe_op op_mul (pv 1) pe_int)) pe_int) pe_int))
    (pss_cons (ps_set (i := 2) sc.nd rfl (.inl rfl) (pe_op op_mod (pe_op op_mul (pv 2) (pv 2)) pe_int))
    (pss_one (ps_ret (pe_op op_mod (pe_op op_mul (pv 2) (pe_op op_add (pv 2) pe_int)) pe_int))))), ?_⟩
    have b1 : ∀ z : Int, 0 ≤ z % 2147483629 ∧ z % 2147483629 < 2147483629 := fun z => ⟨Int.emod_nonneg z (by decide), Int.emod_lt_of_pos z (by decide)⟩
    have b2 : ∀ z : Int, 0 ≤ z % 2147483587 ∧ z % 2147483587 < 2147483587 := fun z => ⟨Int.emod_nonneg z (by decide), Int.emod_lt_of_pos z (by decide)⟩
    refine ⟨.int a, rfl, a, 2147483647, rfl, rfl, by show (0 : Int) < _; decide, _, 48271, rfl, rfl, .inr ⟨by decide, by decide⟩, .int k, rfl, k, 69621, rfl, rfl, .inr ⟨by decide, by decide⟩, _, _, rfl, rfl, _, 1048583, rfl, rfl, _, 2147483629, rfl, rfl, by show (0 : Int) < _; decide, ?_⟩
    refine ⟨_, rfl, _, rfl, _, _, rfl, rfl, .inl ⟨?_, ?_⟩, _, 2147483587, rfl, rfl, by show (0 : Int) < _; decide, ?_⟩
    · have := b1 (a % 2147483647 * 48271 + k * 69621 + 1048583)
      omega
    · have := b1 (a % 2147483647 * 48271 + k * 69621 + 1048583)
      omega
    · refine ⟨_, rfl, _, rfl, _, 2, rfl, rfl, _, _, rfl, rfl, .inl ⟨?_, ?_⟩, _, 2147483579, rfl, rfl, by show (0 : Int) < _; decide, q _⟩
      · have := b2 ((a % 2147483647 * 48271 + k * 69621 + 1048583) % 2147483629 * ((a % 2147483647 * 48271 + k * 69621 + 1048583) % 2147483629))
        omega
      · have := b2 ((a % 2147483647 * 48271 + k * 69621 + 1048583) % 2147483629 * ((a % 2147483647 * 48271 + k * 69621 + 1048583) % 2147483629))
        omega
theorem ok_law_cell {f f1 : Addr} {fd fd1 : FuncData} (T : Top mg) (F : FnP K "_law_cell" s_law_cell f fd) (c_law_mixed : Cal P w K mg base CX0 1 "_law_mixed" ["_law_cell_here", "_law_k"] spMix f1 fd1) : FnOk P w K mg base CX0 2 f fd ["_law_script", "_law_k"] (spCel K) := by
  have sc := sc_law_cell
  refine ok0 F sc (fun vs H Q E h => ?_) (fun cdv A outer s H vs Q E hr h => ?_)
  · obtain ⟨a, ns, k, rfl, _⟩ := h
    rfl
  · obtain ⟨a, ns, k, rfl, hS, h0, h1, q⟩ := h
    refine ⟨_, (pss_cons (ps_set (i := 2) sc.nd rfl (.inl rfl) pe_int)
    (pss_cut (ps_if (pt_cmpR op_lt (pv 1) (pe_callB call_len (by rfl) T.len (by decide +kernel) (pa_cons (pv 0) pa_nil)) (nomark _))
      (pss_one (ps_set (i := 2) sc.nd rfl (.inl rfl) (pe_ix ix_list (pv 0) (pv 1) (fun _ _ => rfl)))) pss_nil)
    (pss_cons (ps_if (pt_cmpR op_ge (pv 2) (pe_op op_pow pe_int pe_int) (nomark _))
      (pss_one (ps_ret (pe_op op_mod (pe_op op_sub (pv 2) (pe_op op_pow pe_int pe_int)) (pe_op op_mulX (pe_op op_mulX (pe_op op_mulX (pe_op op_pow pe_int pe_int) (pe_op op_pow pe_int pe_int)) (pe_op op_pow pe_int pe_int)) (pe_op op_pow pe_int pe_int))))) pss_nil)
    (pss_cons (ps_set (i := 3) sc.nd rfl (.inl rfl) pe_int)
    (pss_cons (ps_for PassesOwn.never rfl (pi_range1 (by rfl) T.range (pa_cons pe_int pa_nil)) (pg_name (i := 4) sc.nd rfl (.inl rfl))
      (pss_one (ps_set (i := 3) sc.nd rfl (.inl rfl) (pe_op op_add (pe_op op_mul (pv 3) pe_int) (pe_call c_law_mixed.ok (hr.mono (by decide)) (by rfl) c_law_mixed.m c_law_mixed.kp c_law_mixed.b .nil pass0 (pa_cons (pv 2) (pa_cons (pe_op op_add (pe_op op_add (pe_op op_mul pe_int (pv 1)) (pe_op op_mul pe_int (pv 4))) (pe_op op_mul (pv 4) (pv 4))) pa_nil)))))))
    (pss_one (ps_ret (pv 3)))))))), ?_⟩
    refine ⟨fun σ' H' => H' = H ∧ ∃ c : Int, σ' = [some (.ref a), some (.int k), some (.int c), none, none], ?_, fun σ' H' hm => ?_⟩
    · refine ⟨.int k, rfl, .ref a, rfl, _, (ns.map V.int).length, rfl, .inl ⟨_, hS, rfl⟩, k, _, rfl, rfl, _, rfl, ite2 (fun hk => ?_) (fun hk => ?_)⟩
      · have hk2 : k < ((ns.map V.int).length : Int) := of_decide_eq_true hk
        rw [List.length_map] at hk2
        obtain ⟨j, rfl⟩ : ∃ j : Nat, k = (j : Int) := ⟨k.toNat, by omega⟩
        have hj : j < ns.length := by omega
        have ha : atI (ns.map V.int) ((j : Nat) : Int) = some (.int ns[j]) := atI_nat (by rw [List.getElem?_map, List.getElem?_eq_getElem hj]; rfl)
        exact ⟨.ref a, rfl, .int (j : Nat), rfl, a, _, _, _, rfl, rfl, hS, ha, rfl, _, rfl⟩
      · exact ⟨rfl, 0, rfl⟩
    · obtain ⟨rfl, c, rfl⟩ := hm
      refine ⟨.int c, rfl, 10, 18, rfl, rfl, ⟨by decide, by decide, by decide⟩, c, _, rfl, rfl, _, rfl, ite2 (fun _ => ?_) (fun _ => ?_)⟩
      · refine ⟨.int c, rfl, 10, 18, rfl, rfl, ⟨by decide, by decide, by decide⟩, c, _, rfl, rfl, 10, 60, rfl, rfl, ⟨by decide, by decide, by decide⟩, 10, 60, rfl, rfl, ⟨by decide, by decide, by decide⟩, _, _, rfl, rfl, by show CMulX _ _; unfold CMulX; decide +kernel,
          10, 60, rfl, rfl, ⟨by decide, by decide, by decide⟩, _, _, rfl, rfl, by show CMulX _ _; unfold CMulX; decide +kernel, 10, 60, rfl, rfl, ⟨by decide, by decide, by decide⟩, _, _, rfl, rfl, by show CMulX _ _; unfold CMulX; decide +kernel, _, _, rfl, rfl, by show (0 : Int) < _; decide +kernel, q _⟩
      · refine ⟨24, rfl, by decide, by decide, for_range (lo := 0) (n := 24) (fun _ σ' H'' => H'' = H' ∧ ∃ z t, σ' = [some (.ref a), some (.int k), some (.int c), some (.int z), t]) ⟨rfl, 0, none, rfl⟩ (fun i σ' H'' hi hp => ?_) (fun σ' H'' hp => ?_)⟩
        · obtain ⟨rfl, z, t, rfl⟩ := hp
          refine ⟨.int z, rfl, z, 2147483579, rfl, rfl, .inr ⟨by decide, by decide⟩, .int c, rfl, .int k, rfl, 7, k, rfl, rfl, .inl ⟨by decide, by decide⟩, .int (0 + (i : Int)), rfl, 100, _, rfl, rfl, .inl ⟨by decide, by decide⟩, _, _, rfl, rfl, .int (0 + (i : Int)), rfl, .int (0 + (i : Int)), rfl, _, _, rfl, rfl, .inl ⟨by omega, by omega⟩, _, _, rfl, rfl, c, _, rfl, fun y => ⟨_, _, rfl, rfl, rfl, _, _, rfl⟩⟩
        · obtain ⟨rfl, z, t, rfl⟩ := hp
          exact ⟨.int z, rfl, q z⟩
theorem ok_law_take {f : Addr} {fd : FuncData} (T : Top mg) (F : FnP K "_law_take" s_law_take f fd) : FnOk P w K mg base CX0 1 f fd ["_law_pile", "_law_size"] spTake := by
  have sc := sc_law_take
  refine ok0 F sc (fun vs H Q E h => ?_) (fun cdv A outer s H vs Q E hr h => ?_)
  · obtain ⟨p, x, n, rfl, _⟩ := h
    rfl
  · obtain ⟨p, x, n, rfl, hp, h0, h1, q⟩ := h
    refine ⟨_, (pss_cons (ps_set (i := 2) sc.nd rfl (.inl rfl) (pe_op op_mod (pe_ix ix_list (pv 0) pe_int (fun _ _ => rfl)) (pv 1)))
    (pss_cons (ps_asg (pe_op op_fdivW (pe_ix ix_list (pv 0) pe_int (fun _ _ => rfl)) (pv 1)) (pg_sub (pv 0) pe_int set_list))
    (pss_one (ps_ret (pv 2))))), ?_⟩
    refine ⟨.ref p, rfl, p, [.int x], 0, .int x, rfl, rfl, sq_of hp, rfl, .int n, rfl, x, n, rfl, rfl, h0, ?_⟩
    refine ⟨.ref p, rfl, p, [.int x], 0, .int x, rfl, rfl, sq_of hp, rfl, .int n, rfl, x, n, rfl, rfl, ⟨h0, h1⟩, .ref p, rfl, p, [.int x], 0, 0, rfl, rfl, hp, rfl, ?_⟩
    exact ⟨_, rfl, q⟩
theorem ok_law_floor_root {f : Addr} {fd : FuncData} (T : Top mg) (F : FnP K "_law_floor_root" s_law_floor_root f fd) : FnOk P w K mg base CX0 1 f fd ["_law_whole"] spFRoot := by
  have sc := sc_law_floor_root
  refine ok0 F sc (fun vs H Q E h => ?_) (fun cdv A outer s H vs Q E hr h => ?_)
  · obtain ⟨n, rfl, _⟩ := h
    rfl
  · obtain ⟨n, rfl, h0, hb, q⟩ := h
    have q := q H (Ex.refl H)
    refine ⟨_, (pss_cons (ps_set (i := 1) sc.nd rfl (.inl rfl) pe_int)
    (pss_cons (ps_for PassesOwn.never rfl (pi_range3 (by rfl) T.range (pa_cons (pe_op op_fdivW (pe_op op_add (pe_bits (pv 0)) pe_int) pe_int) (pa_cons (pe_un un_neg pe_int) (pa_cons (pe_un un_neg pe_int) pa_nil)))) (pg_name (i := 2) sc.nd rfl (.inl rfl))
      (pss_cons (ps_set (i := 3) sc.nd rfl (.inl rfl) (pe_op op_add (pv 1) (pe_op op_shlW pe_int (pv 2))))
      (pss_one (ps_if (pt_cmpR op_le (pe_op op_mulX (pv 3) (pv 3)) (pv 0) (nomark _))
        (pss_one (ps_set (i := 1) sc.nd rfl (.inl rfl) (pv 3))) pss_nil))))
    (pss_one (ps_ret (pv 1))))), ?_⟩
    have hbits : Builtin.Int.intBits n ≤ 8000 := by
      by_cases e0 : n = 0
      · rw [e0]
        decide
      · rw [bits_of e0]
        exact PySem.Flt.log2_lt_of (by decide) hb
    have hlt : n.natAbs < 2 ^ Builtin.Int.intBits n := by
      by_cases e0 : n = 0
      · rw [e0]
        decide
      · rw [bits_of e0]
        exact Nat.lt_log2_self
    obtain ⟨c, hc⟩ : ∃ c : Nat, c = (Builtin.Int.intBits n + 1) / 2 := ⟨_, rfl⟩
    have hdiv : (((Builtin.Int.intBits n : Nat) : Int) + 1) / 2 = (c : Int) := by omega
    have hc4 : c ≤ 4001 := by omega
    have hup : n < 2 ^ (c + 1) * 2 ^ (c + 1) := by
      rw [← Int.pow_add, ← pow_two_cast]
      have : 2 ^ Builtin.Int.intBits n ≤ 2 ^ (c + 1 + (c + 1)) := Nat.pow_le_pow_right (by decide) (by omega)
      omega
    refine ⟨.int n, rfl, n, rfl, _, 1, rfl, rfl, _, 2, rfl, rfl, ⟨by decide, by decide⟩, 1, rfl, 1, rfl, (c : Int), -1, -1, c + 1, by rw [← hdiv], ?_, ?_⟩
    · have := RgC.neg (i := ((c : Nat) : Int)) (j := -1) (by omega) (by omega) (by omega) (by omega)
      rw [show (((c : Nat) : Int) - -1).toNat = c + 1 by omega] at this
      exact this
    refine for_rangeC (fun i σ' H' => H' = H ∧ i ≤ c + 1 ∧ ∃ (a : Int) (t u : Option V), σ' = [some (.int n), some (.int a), t, u] ∧ 0 ≤ a ∧ a * a ≤ n ∧ n < (a + 2 ^ (c + 1 - i)) * (a + 2 ^ (c + 1 - i))) ⟨rfl, Nat.zero_le _, 0, none, none, rfl, by decide, h0, by rw [Int.zero_add]; exact hup⟩ (fun i σ' H' hi hp => ?_) (fun σ' H' hp => ?_)
    · obtain ⟨rfl, _, a, t, u, rfl, a0, a1, a2⟩ := hp
      have ei : ((c : Nat) : Int) + ((i : Nat) : Int) * -1 = ((c - i : Nat) : Int) := by omega
      have hab : a.natAbs < 2 ^ 8000 := by
        refine Decidable.byContradiction fun z => ?_
        have z1 : 1 ≤ a := by omega
        have : a * 1 ≤ a * a := Int.mul_le_mul_of_nonneg_left z1 a0
        omega
      rw [ei]
      refine ⟨.int a, rfl, .int ((c - i : Nat) : Int), rfl, 1, ((c - i : Nat) : Int), rfl, rfl, shl_ok (i := 1) (n := 1) (by decide) (by omega), a, _, rfl, rfl, ?_⟩
      obtain ⟨b, hbd⟩ : ∃ b : Int, b = a + 2 ^ (c - i) := ⟨_, rfl⟩
      have eb : a + 1 * 2 ^ (((c - i : Nat) : Int)).toNat = b := by rw [hbd, Int.one_mul, Int.toNat_natCast]
      have hbb : b.natAbs < 2 ^ 8001 := by
        have p1 := pow_pos2 (c - i)
        have p2 : (2 : Nat) ^ (c - i) ≤ 2 ^ 8000 := Nat.pow_le_pow_right (by decide) (by omega)
        have p3 : (2 : Nat) ^ 8001 = 2 ^ 8000 * 2 := Nat.pow_succ ..
        have p4 := pow_two_cast (c - i)
        omega
      refine ⟨.int b, by rw [← eb]; rfl, .int b, by rw [← eb]; rfl, b, b, rfl, rfl, mulx_ok hbb hbb (by decide), .int n, rfl, _, _, rfl, rfl, _, rfl, ite2 (fun h1 => ?_) (fun h1 => ?_)⟩
      · have e1 : b * b ≤ n := of_decide_eq_true h1
        refine ⟨.int b, by rw [← eb]; rfl, rfl, by omega, b, some (.int ((c - i : Nat) : Int)), some (.int b), by rw [← eb]; rfl, ?_, e1, ?_⟩
        · have p1 := pow_pos2 (c - i)
          omega
        · have e2 : b + 2 ^ (c + 1 - (i + 1)) = a + 2 ^ (c + 1 - i) := by
            rw [hbd, show c + 1 - (i + 1) = c - i by omega, show c + 1 - i = c - i + 1 by omega, Int.pow_succ]
            omega
          rw [e2]
          exact a2
      · have e1 : ¬ b * b ≤ n := fun z => h1 (decide_eq_true z)
        refine ⟨rfl, by omega, a, some (.int ((c - i : Nat) : Int)), some (.int b), by rw [← eb]; rfl, a0, a1, ?_⟩
        rw [show c + 1 - (i + 1) = c - i by omega, ← hbd]
        omega
    · obtain ⟨rfl, _, a, t, u, rfl, a0, a1, a2⟩ := hp
      rw [Nat.sub_self, Int.pow_zero] at a2
      rw [froot_of (r := a) ⟨a0, a1, a2⟩] at q
      exact ⟨.int a, rfl, q⟩
theorem ok_law_exact {f f1 : Addr} {fd fd1 : FuncData} (T : Top mg) (F : FnP K "_law_exact" s_law_exact f fd) (c_law_floor_root : Cal P w K mg base CX0 1 "_law_floor_root" ["_law_whole"] spFRoot f1 fd1) : FnOk P w K mg base CX0 2 f fd ["_law_word_told", "_law_number_told"] (spExA K) := by
  have sc := sc_law_exact
  refine ok0 F sc (fun vs H Q E h => ?_) (fun cdv A outer s H vs Q E hr h => ?_)
  · obtain ⟨w, v, n, rfl, _⟩ := h
    rfl
  · obtain ⟨w, v, n, rfl, gv, ⟨p1, p2, p3, p4⟩, q⟩ := h
    refine ⟨_, (pss_cons (ps_if (pt_cmpR op_eq (pv 0) pe_str (nomark _))
      (pss_cons (ps_if (pt_cmpR op_eq (pe_ix ix_tup (pv 1) pe_int (fun _ _ => rfl)) pe_int (nomark _))
        (pss_one (ps_ret (pe_tup (pa_cons pe_int (pa_cons pe_int pa_nil))))) pss_nil)
      (pss_cons (ps_set (i := 2) sc.nd rfl (.inl rfl) (pe_call c_law_floor_root.ok (hr.mono (by decide)) (by rfl) c_law_floor_root.m c_law_floor_root.kp c_law_floor_root.b .nil pass0 (pa_cons (pe_ix ix_tup (pv 1) pe_int (fun _ _ => rfl)) pa_nil)))
      (pss_cons (ps_if (PW.pt (pw_or (pt_cmpR op_eq (pe_op op_mod (pe_ix ix_tup (pv 1) pe_int (fun _ _ => rfl)) pe_int) pe_int (nomark _)) (pw_or1 (pt_cmpR op_ne (pe_op op_mulX (pv 2) (pv 2)) (pe_ix ix_tup (pv 1) pe_int (fun _ _ => rfl)) (nomark _)))))
        (pss_one (ps_ret pe_non)) pss_nil)
      (pss_one (ps_ret (pe_tup (pa_cons (pv 2) (pa_cons (pe_op op_fdivW (pe_ix ix_tup (pv 1) pe_int (fun _ _ => rfl)) pe_int) pa_nil)))))))) pss_nil)
    (pss_cons (ps_if (pt_cmpR op_eq (pv 0) pe_str (nomark _))
      (pss_one (ps_ret (pe_ix ix_list (pe_lst (pa_cons pe_non (pa_cons (pe_tup (pa_cons pe_int (pa_cons pe_int pa_nil))) pa_nil))) (pe_callTy call_int1 (by rfl) T.ty_int (by decide +kernel) (pa_cons (pe_cmpR (op_eqD hr.units) (pv 1) (pe_tup (pa_cons pe_int (pa_cons pe_int pa_nil))) (nomark _)) pa_nil)) (fun _ _ => rfl)))) pss_nil)
    (pss_cons (ps_if (pt_cmpR (op_neD hr.units) (pv 1) (pe_tup (pa_cons pe_int (pa_cons pe_int pa_nil))) (nomark _))
      (pss_one (ps_ret pe_non)) pss_nil)
    (pss_one (ps_ret (pe_ix ix_list (pe_lst (pa_cons (pe_tup (pa_cons pe_int (pa_cons pe_int pa_nil))) (pa_cons (pe_tup (pa_cons pe_int (pa_cons pe_int pa_nil))) pa_nil))) (pe_callTy call_int1 (by rfl) T.ty_int (by decide +kernel) (pa_cons (pe_cmpR op_in_seq (pv 0) (pe_tup (pa_cons pe_str (pa_cons pe_str pa_nil))) (by with_unfolding_all rfl)) pa_nil)) (fun _ _ => rfl))))))), ?_⟩
    obtain ⟨r, rfl, hr1⟩ := gv.at_
    unfold exW at q
    refine ⟨.str w, rfl, rfl, _, rfl, ite2 (fun h1 => ?_) (fun h1 => ?_)⟩
    · have e1 : w = "root" := V.str.inj (of_decide_eq_true h1)
      rw [if_pos e1] at q
      have h0 := p1 e1
      refine ⟨.ref r, rfl, r, [.int n.1, .int n.2], 0, .int n.1, rfl, rfl, hr1, rfl, rfl, _, rfl, ite2 (fun h2 => ?_) (fun h2 => ?_)⟩
      · have e2 : n = (0, 0) := num_zero gv.nb (V.int.inj (of_decide_eq_true h2))
        have e3 : exRoot n = some (0, 0) := by
          rw [e2]
          unfold exRoot
          have : froot 0 = 0 := froot_of ⟨by decide, by decide, by decide⟩
          rw [if_neg (by decide)]
          show (if froot 0 * froot 0 = 0 then some (froot 0, (0 : Int) / 2) else none) = some (0, 0)
          rw [this]
          rfl
        rw [e3] at q
        exact ⟨by show 2 ≤ sizeLine; decide, fun p hp => q _ (.ref p) (Ex.new hp) (numAt_of upd_same)⟩
      · have hb : n.1.natAbs < 2 ^ 8000 := Nat.lt_of_lt_of_le gv.bd.1 (Nat.pow_le_pow_right (by decide) (by decide))
        refine ⟨.ref r, rfl, r, [.int n.1, .int n.2], 0, .int n.1, rfl, rfl, hr1, rfl, n.1, rfl, h0, hb, fun H1 x1 => ?_⟩
        have hr1 := ex_t x1 hr1
        have fb := froot_abs h0 hb
        unfold exRoot at q
        refine ⟨.ref r, rfl, r, [.int n.1, .int n.2], 1, .int n.2, rfl, rfl, hr1, rfl, n.2, 2, rfl, rfl, by show (0 : Int) < _; decide, rfl, _, rfl, ite2 (fun h3 => ?_) (fun h3 => ?_)⟩
        · have e3 : n.2 % 2 = 1 := V.int.inj (of_decide_eq_true h3)
          rw [if_pos e3] at q
          exact iteT (q H1 .non x1 rfl)
        · have e3 : ¬ n.2 % 2 = 1 := fun z => h3 (decide_eq_true (congrArg V.int z))
          rw [if_neg e3] at q
          refine ⟨.int (froot n.1), rfl, .int (froot n.1), rfl, froot n.1, froot n.1, rfl, rfl, mulx_ok fb fb (by decide), .ref r, rfl, r, [.int n.1, .int n.2], 0, .int n.1, rfl, rfl, hr1, rfl, rfl, _, rfl, ite2 (fun h4 => ?_) (fun h4 => ?_)⟩
          · have e4 : ¬ froot n.1 * froot n.1 = n.1 := fun z => by
              rw [decide_eq_true (congrArg V.int z)] at h4
              cases h4
            rw [if_neg e4] at q
            exact q H1 .non x1 rfl
          · have e4 : froot n.1 * froot n.1 = n.1 := by
              by_cases z : froot n.1 * froot n.1 = n.1
              · exact z
              · exact absurd (by rw [decide_eq_false (fun y => z (V.int.inj y))]; rfl) h4
            rw [if_pos e4] at q
            exact ⟨.int (froot n.1), rfl, .ref r, rfl, r, [.int n.1, .int n.2], 1, .int n.2, rfl, rfl, hr1, rfl, n.2, 2, rfl, rfl, ⟨by decide, by decide⟩, by show 2 ≤ sizeLine; decide, fun p hp => q _ (.ref p) (x1.trans (Ex.new hp)) (numAt_of upd_same)⟩
    have n1 : w ≠ "root" := fun z => h1 (decide_eq_true (congrArg V.str z))
    rw [if_neg n1] at q
    refine ⟨.str w, rfl, rfl, _, rfl, ite2 (fun h2 => ?_) (fun h2 => ?_)⟩
    · have e1 : w = "log" := V.str.inj (of_decide_eq_true h2)
      rw [if_pos e1] at q
      refine ⟨by show 2 ≤ sizeLine; decide, fun p hp => ?_⟩
      refine ⟨by show 2 ≤ sizeLine; decide, fun l hl => ?_⟩
      have hp2 : (upd (upd H p (.tup [.int 0, .int 0])) l (.lst [.non, .ref p])) p = some (.tup [.int 0, .int 0]) := (Ex.new hl) _ _ upd_same
      have hl2 : (upd (upd H p (.tup [.int 0, .int 0])) l (.lst [.non, .ref p])) l = some (.lst [.non, .ref p]) := upd_same
      have x1 : Ex H (upd (upd H p (.tup [.int 0, .int 0])) l (.lst [.non, .ref p])) := (Ex.new hp).trans (Ex.new hl)
      generalize upd (upd H p (.tup [.int 0, .int 0])) l (.lst [.non, .ref p]) = H1 at *
      refine (evb_eq (evn_var (σ := [some (.str w), some (.ref r), none]) (i := 1) rfl (gv.ex x1)) (evn_lit (B := 1) (m := 1) (e := 0) ev_c ev_c rfl ⟨by decide, by decide⟩)) H1 (Ex.refl H1) _ fun H2 x2 => .inr ⟨_, rfl, ?_⟩
      by_cases z : n = (1, 0)
      · rw [if_pos z] at q
        rw [decide_eq_true z]
        exact ⟨l, _, 1, .ref p, rfl, rfl, sq_of (x2 _ _ hl2), rfl, q H2 (.ref p) (x1.trans x2) (numAt_of (x2 _ _ hp2))⟩
      · rw [if_neg z] at q
        rw [decide_eq_false z]
        exact ⟨l, _, 0, .non, rfl, rfl, sq_of (x2 _ _ hl2), rfl, q H2 .non (x1.trans x2) rfl⟩
    have n2 : w ≠ "log" := fun z => h2 (decide_eq_true (congrArg V.str z))
    rw [if_neg n2] at q
    refine (et_test (evb_ne (evn_var (σ := [some (.str w), some (.ref r), none]) (i := 1) rfl gv) (evn_lit (B := 1) (m := 0) (e := 0) ev_c ev_c rfl ⟨by decide, by decide⟩))) H (Ex.refl H) _ fun H1 x1 => ite2 (fun h3 => ?_) (fun h3 => ?_)
    · have n3 : n ≠ (0, 0) := fun z => by
        rw [decide_eq_true z] at h3
        cases h3
      rw [if_pos n3] at q
      exact q H1 .non x1 rfl
    · have e3 : ¬ n ≠ (0, 0) := fun z => h3 (by rw [decide_eq_false z]; rfl)
      rw [if_neg e3] at q
      refine ⟨by show 2 ≤ sizeLine; decide, fun p hp => ?_⟩
      refine ⟨by show 2 ≤ sizeLine; decide, fun p2 hp2 => ?_⟩
      refine ⟨by show 2 ≤ sizeLine; decide, fun l hl => ?_⟩
      have y1 := (Ex.new (o := .tup [.int 0, .int 0]) hp)
      have y2 := (Ex.new (o := .tup [.int 1, .int 0]) hp2)
      have y3 := (Ex.new (o := .lst [.ref p, .ref p2]) hl)
      have hpa := (y2.trans y3) _ _ (upd_same (H := H1) (a := p) (o := .tup [.int 0, .int 0]))
      have hpb := y3 _ _ (upd_same (H := upd H1 p (.tup [.int 0, .int 0])) (a := p2) (o := .tup [.int 1, .int 0]))
      have hpl := (upd_same (H := upd (upd H1 p (.tup [.int 0, .int 0])) p2 (.tup [.int 1, .int 0])) (a := l) (o := .lst [.ref p, .ref p2]))
      have y4 := (x1.trans y1).trans (y2.trans y3)
      generalize upd (upd (upd H1 p (.tup [.int 0, .int 0])) p2 (.tup [.int 1, .int 0])) l (.lst [.ref p, .ref p2]) = H2 at *
      refine ⟨.str w, rfl, by show 2 ≤ sizeLine; decide, fun p3 hp3 => ?_⟩
      have y5 := Ex.new (o := .tup [.str "exp", .str "cos"]) hp3
      refine ⟨p3, _, rfl, .inr (st_of upd_same), rfl, rfl, .inr ⟨_, rfl, ?_⟩⟩
      by_cases z : w = "exp" ∨ w = "cos"
      · rw [if_pos z] at q
        rw [two_in z]
        exact ⟨l, _, 1, .ref p2, rfl, rfl, sq_of (y5 _ _ hpl), rfl, q _ (.ref p2) (y4.trans y5) (numAt_of (y5 _ _ hpb))⟩
      · rw [if_neg z] at q
        have e4 : inV (.str w) [.str "exp", .str "cos"] = false := Bool.eq_false_iff.mpr fun y => z (in_two y)
        rw [e4]
        exact ⟨l, _, 0, .ref p, rfl, rfl, sq_of (y5 _ _ hpl), rfl, q _ (.ref p) (y4.trans y5) (numAt_of (y5 _ _ hpa))⟩
theorem ok_law_odd {f : Addr} {fd : FuncData} (T : Top mg) (F : FnP K "_law_odd" s_law_odd f fd) : FnOk P w K mg base CX0 1 f fd ["_law_m", "_law_e"] spNof := by
  have sc := sc_law_odd
  refine ok0 F sc (fun vs H Q E h => ?_) (fun cdv A outer s H vs Q E hr h => ?_)
  · obtain ⟨m, e, rfl, _⟩ := h
    rfl
  · obtain ⟨m, e, rfl, q⟩ := h
    refine ⟨_, (pss_cons (ps_if (pt_cmpR op_eq (pv 0) pe_int (nomark _))
      (pss_one (ps_ret (pe_tup (pa_cons pe_int (pa_cons pe_int pa_nil))))) pss_nil)
    (pss_cons (ps_while PassesOwn.never (pt_cmpR op_eq (pe_op op_mod (pv 0) pe_int) pe_int (nomark _))
      (pss_cons (ps_set (i := 0) sc.nd rfl (.inl rfl) (pe_op op_fdivW (pv 0) pe_int))
      (pss_one (ps_set (i := 1) sc.nd rfl (.inl rfl) (pe_op op_add (pv 1) pe_int)))))
    (pss_one (ps_ret (pe_tup (pa_cons (pv 0) (pa_cons (pv 1) pa_nil))))))), ?_⟩
    refine ⟨.int m, rfl, rfl, _, rfl, ite2 (fun h0 => ?_) (fun h0 => ?_)⟩
    · have e0 : m = 0 := V.int.inj (of_decide_eq_true h0)
      subst e0
      exact ⟨by show 2 ≤ sizeLine; decide, fun p hp => q _ p (Ex.new hp) hp upd_same⟩
    · have e0 : m ≠ 0 := fun z => h0 (decide_eq_true (congrArg V.int z))
      refine q_while (fun n σ' H' => ∃ (m' e' : Int) (j : Nat), σ' = [some (.int m'), some (.int e')] ∧ Ex H H' ∧ m' ≠ 0 ∧ m = 2 ^ j * m' ∧ e' = e + j ∧ n = m'.natAbs) m.natAbs ⟨m, e, 0, rfl, Ex.refl H, e0, by rw [Int.pow_zero, Int.one_mul], by omega, rfl⟩ ?_
      rintro n σ' H' ⟨m', e', j, rfl, ex, hm, hj, he, hn⟩
      refine ⟨_, et_test (ev_op (ev_op (ev_var rfl) ev_c (rv_I (by decide))) ev_c (rv_eq rfl)), fun hb H1 e1 => ?_, fun hb H1 e1 => ?_⟩
      · have h2 : m' % 2 = 0 := V.int.inj (of_decide_eq_true hb)
        refine ⟨_, fun _ _ h => h, ?_⟩
        refine ⟨.int m', rfl, m', 2, rfl, rfl, ⟨by decide, by decide⟩, .int e', rfl, e', 1, rfl, rfl, ?_⟩
        refine ⟨(m' / 2).natAbs, by omega, m' / 2, e' + 1, j + 1, rfl, ex.trans e1, by omega, ?_, by omega, rfl⟩
        rw [Int.pow_succ, Int.mul_assoc, show 2 * (m' / 2) = m' by omega]
        exact hj
      · have h2 : ¬ m' % 2 = 0 := fun z => by
          rw [decide_eq_true (congrArg V.int z)] at hb
          cases hb
        have hm2 : m' = 2 * (m' / 2) + 1 := by omega
        have en : nrm m e = (m', e') := by
          have h3 : m = 2 ^ j * (2 * (m' / 2) + 1) := by rw [← hm2]; exact hj
          rw [nrm_of e h3, ← hm2, he]
        refine ⟨.int m', rfl, .int e', rfl, by show 2 ≤ sizeLine; decide, fun p hp => q _ p ((ex.trans e1).trans (Ex.new hp)) (fresh_back (ex.trans e1) hp) ?_⟩
        rw [upd_same, en]
def mostF (w : Int) : Int := if w = 0 then 9 else if w = 1 then 2 ^ 16 else if w = 2 then 2 ^ 60 else if w = 3 then 2 ^ 180 else if w = 4 then 2 ^ 180 else if w = 5 then 99 else 9
def loF (w : Int) : Int := if w = 0 then -4 else if w = 1 then -21 else if w = 2 then -69 else if w = 3 then -189 else if w = 4 then 100 else if w = 5 then -789 else 0
def hiF (w : Int) : Int := if w = 0 then 2 else if w = 1 then -6 else if w = 2 then -40 else if w = 3 then -170 else if w = 4 then 599 else if w = 5 then -300 else 0
def subF (w : Int) : Int := if w = 0 then 0 else if w = 1 then 4 else if w = 2 then 14 else if w = 3 then 6 else 0
theorem seven {w : Int} (h0 : 0 ≤ w) (h7 : w < 7) : w = 0 ∨ w = 1 ∨ w = 2 ∨ w = 3 ∨ w = 4 ∨ w = 5 ∨ w = 6 := by omega
theorem mostF_le {w : Int} (h0 : 0 ≤ w) (h7 : w < 7) : mostF w ≤ 2 ^ 180 ∧ 0 < mostF w := by
  rcases seven h0 h7 with rfl | rfl | rfl | rfl | rfl | rfl | rfl <;> decide +kernel
theorem nrm2_ge (m e : Int) : min e 0 ≤ (nrm m e).2 := by
  unfold nrm
  by_cases h : m = 0
  · rw [if_pos h]
    show min e 0 ≤ 0
    omega
  · rw [if_neg h]
    show min e 0 ≤ e + (v2 m : Int)
    omega
theorem val_ok {m e : Int} (h : m.natAbs * 2 ^ e.toNat ≤ 1000 * 2 ^ (-e).toNat) : pord (-125, 3) (nrm m e) ≤ 0 ∧ pord (nrm m e) (125, 3) ≤ 0 := by
  have h1 := nrm2_ge m e
  have hE : min e 0 ≤ e := by omega
  have e1 : at_ (nrm m e) (min e 0) = m * 2 ^ e.toNat := by
    rw [nrm_at hE]
    congr 2
    omega
  have e2 : at_ (125, 3) (min e 0) = 1000 * 2 ^ (-e).toNat := by
    show (125 : Int) * 2 ^ (3 - min e 0).toNat = _
    rw [show (3 - min e 0).toNat = 3 + (-e).toNat by omega, Int.pow_add, ← Int.mul_assoc]
    rfl
  have e3 : at_ (-125, 3) (min e 0) = -(1000 * 2 ^ (-e).toNat) := by
    rw [← e2]
    exact at_neg (125, 3) (min e 0)
  have h2 : ((m.natAbs * 2 ^ e.toNat : Nat) : Int) ≤ ((1000 * 2 ^ (-e).toNat : Nat) : Int) := Int.ofNat_le.mpr h
  rw [Int.natCast_mul, Int.natCast_mul, pow_two_cast, pow_two_cast] at h2
  have p := pow_pos2 e.toNat
  have a1 : m * 2 ^ e.toNat ≤ (m.natAbs : Int) * 2 ^ e.toNat := Int.mul_le_mul_of_nonneg_right (by omega) (by omega)
  have a2 : -((m.natAbs : Int) * 2 ^ e.toNat) ≤ m * 2 ^ e.toNat := by
    rw [← Int.neg_mul]
    exact Int.mul_le_mul_of_nonneg_right (by omega) (by omega)
  have c : ((1000 : Nat) : Int) = 1000 := rfl
  rw [c] at h2
  constructor
  · rw [ord_at (E := min e 0) (by show min e 0 ≤ 3; omega) h1, e1, e3]
    omega
  · rw [ord_at (E := min e 0) h1 (by show min e 0 ≤ 3; omega), e1, e2]
    omega
theorem size_ok {m e : Int} {k : Nat} (h : m.natAbs < 2 ^ k) : (nrm m e).1 = 0 ∨ psize (nrm m e) < k + e := by
  by_cases h0 : m = 0
  · exact .inl (by rw [h0]; rfl)
  · right
    obtain ⟨a, ha⟩ := v2_spec h0
    rw [nrm_of e ha]
    unfold psize
    show ((Builtin.Int.intBits (2 * a + 1) : Nat) : Int) - 1 + (e + (v2 m : Int)) < k + e
    rw [bits_of (by omega)]
    have l1 : 2 ^ (2 * a + 1).natAbs.log2 ≤ (2 * a + 1).natAbs := Nat.log2_self_le (by omega)
    have e1 : m.natAbs = 2 ^ v2 m * (2 * a + 1).natAbs := by
      have := congrArg Int.natAbs ha
      rw [Int.natAbs_mul] at this
      have e2 : ((2 : Int) ^ v2 m).natAbs = 2 ^ v2 m := by rw [← pow_two_cast]; rfl
      rw [e2] at this
      exact this
    have l2 : 2 ^ (v2 m + (2 * a + 1).natAbs.log2) < 2 ^ k := by
      rw [Nat.pow_add]
      exact Nat.lt_of_le_of_lt (Nat.mul_le_mul_left _ l1) (by rw [← e1]; exact h)
    have l3 := (Nat.pow_lt_pow_iff_right (by decide : 1 < 2)).mp l2
    omega
theorem sgn_nn {m e : Int} (h : 0 ≤ m) : 0 ≤ (nrm m e).1 := by
  have s := sgn_nrm m e
  rcases Int.lt_trichotomy m 0 with z | z | z
  · omega
  · rw [z] at s
    rw [z]
    exact Int.le_refl 0
  · rw [sgn_pos z] at s
    have := sgn_of_pos s
    omega
theorem sgn_pp {m e : Int} (h : 0 < m) : 0 < (nrm m e).1 := by
  have s := sgn_nrm m e
  rw [sgn_pos h] at s
  exact sgn_of_pos s
theorem place_ok {w : Str} {m e : Int} (h1 : m.natAbs < 2 ^ 181) (h2 : -803 ≤ e) (h3 : e ≤ 599) (hr : w = "root" → 0 ≤ m) (hl : w = "log" → 0 < m) (hx : w = "exp" → m.natAbs * 2 ^ e.toNat ≤ 1000 * 2 ^ (-e).toNat) : PlaceOf w (nrm m e) ∧ Bd (nrm m e) 3000 := by
  refine ⟨⟨fun z => sgn_nn (hr z), fun z => sgn_pp (hl z), fun z => val_ok (hx z), fun _ _ _ => ?_⟩, bd_nrm h1 (by omega)⟩
  rcases size_ok (e := e) h1 with z | z
  · exact .inl z
  · right
    have : ((181 : Nat) : Int) = 181 := rfl
    omega
theorem exp_ok {w m e0 : Int} (h0 : 0 ≤ w) (h7 : w < 7) (hm : (m.natAbs : Int) ≤ if w = 4 then 999 else mostF w) (hl0 : e0 ≤ if w = 4 then 0 else hiF w) : m.natAbs * 2 ^ (e0 - subF w).toNat ≤ 1000 * 2 ^ (-(e0 - subF w)).toNat := by
  obtain ⟨e, hee⟩ : ∃ e, e = e0 - subF w := ⟨_, rfl⟩
  have hl : e + subF w ≤ if w = 4 then 0 else hiF w := by rw [hee]; omega
  rw [← hee]
  have neg : ∀ k : Nat, e ≤ -(k : Int) → m.natAbs ≤ 1000 * 2 ^ k → m.natAbs * 2 ^ e.toNat ≤ 1000 * 2 ^ (-e).toNat := fun k hk hb => by
    rw [show e.toNat = 0 by omega, Nat.pow_zero, Nat.mul_one]
    exact Nat.le_trans hb (Nat.mul_le_mul_left _ (Nat.pow_le_pow_right (by decide) (by omega)))
  have pos : ∀ (k M : Nat), e ≤ (k : Int) → m.natAbs ≤ M → M * 2 ^ k ≤ 1000 → m.natAbs * 2 ^ e.toNat ≤ 1000 * 2 ^ (-e).toNat := fun k M hk hb hM => by
    refine Nat.le_trans (Nat.mul_le_mul hb (Nat.pow_le_pow_right (by decide) (show e.toNat ≤ k by omega))) (Nat.le_trans hM ?_)
    have : 0 < 2 ^ (-e).toNat := Nat.pow_pos (by decide)
    omega
  rcases seven h0 h7 with rfl | rfl | rfl | rfl | rfl | rfl | rfl
  · simp [mostF, subF, hiF] at hm hl
    exact pos 2 9 (by omega) (by omega) (by decide)
  · simp [mostF, subF, hiF] at hm hl
    exact neg 10 (by omega) (by omega)
  · simp [mostF, subF, hiF] at hm hl
    exact neg 54 (by omega) (by omega)
  · simp [mostF, subF, hiF] at hm hl
    exact neg 176 (by omega) (by omega)
  · simp [mostF, subF, hiF] at hm hl
    exact pos 0 1000 (by omega) (by omega) (by decide)
  · simp [mostF, subF, hiF] at hm hl
    exact neg 300 (by omega) (Nat.le_trans (show m.natAbs ≤ 1000 * 1 by omega) (Nat.mul_le_mul_left _ (Nat.pow_pos (by decide))))
  · simp [mostF, subF, hiF] at hm hl
    exact pos 0 1000 (by omega) (by omega) (by decide)
def spPlace (K : PySem.W.Frag) : Sp := fun vs H Q _ => ∃ (p : Addr) (w : Str), vs = [.ref p, .str w] ∧ Pl p H ∧ ∀ v n H', Keeps p H H' → Pl p H' → Gn K H' v n 3000 → PlaceOf w n → Q v H'
theorem ok_law_place {f f1 f2 : Addr} {fd fd1 fd2 : FuncData} (T : Top mg) (F : FnP K "_law_place" s_law_place f fd) (c_law_take : Cal P w K mg base CX0 1 "_law_take" ["_law_pile", "_law_size"] spTake f1 fd1) (c_law_odd : Cal P w K mg base CX0 1 "_law_odd" ["_law_m", "_law_e"] spNof f2 fd2) : FnOk P w K mg base CX0 2 f fd ["_law_pile", "_law_word_told"] (spPlace K) := by
  have sc := sc_law_place
  refine ok0 F sc (fun vs H Q E h => ?_) (fun cdv A outer s H vs Q E hr h => ?_)
  · obtain ⟨p, w, rfl, _⟩ := h
    rfl
  · obtain ⟨p, w, rfl, l0, q⟩ := h
    refine ⟨_, (pss_cons (ps_set (i := 2) sc.nd rfl (.inl rfl) (pe_call c_law_take.ok (hr.mono (by decide)) (by rfl) c_law_take.m c_law_take.kp c_law_take.b .nil pass0 (pa_cons (pv 0) (pa_cons pe_int pa_nil))))
    (pss_cons (ps_set (i := 3) sc.nd rfl (.inl rfl) (pe_ix ix_list (pe_lst (pa_cons pe_int (pa_cons (pe_op op_pow pe_int pe_int) (pa_cons (pe_op op_pow pe_int pe_int) (pa_cons (pe_op op_mulX (pe_op op_mulX (pe_op op_pow pe_int pe_int) (pe_op op_pow pe_int pe_int)) (pe_op op_pow pe_int pe_int)) (pa_cons (pe_op op_mulX (pe_op op_mulX (pe_op op_pow pe_int pe_int) (pe_op op_pow pe_int pe_int)) (pe_op op_pow pe_int pe_int)) (pa_cons pe_int (pa_cons pe_int pa_nil)))))))) (pv 2) (fun _ _ => rfl)))
    (pss_cons (ps_set (i := 4) sc.nd rfl (.inl rfl) (pe_op op_sub (pe_call c_law_take.ok (hr.mono (by decide)) (by rfl) c_law_take.m c_law_take.kp c_law_take.b .nil pass0 (pa_cons (pv 0) (pa_cons (pe_op op_add (pe_op op_mul pe_int (pv 3)) pe_int) pa_nil))) (pv 3)))
    (pss_cons (ps_set (i := 5) sc.nd rfl (.inl rfl) (pe_lst (pa_cons (pe_op op_sub (pe_call c_law_take.ok (hr.mono (by decide)) (by rfl) c_law_take.m c_law_take.kp c_law_take.b .nil pass0 (pa_cons (pv 0) (pa_cons pe_int pa_nil))) pe_int) (pa_cons (pe_op op_sub (pe_op op_sub pe_int pe_int) (pe_call c_law_take.ok (hr.mono (by decide)) (by rfl) c_law_take.m c_law_take.kp c_law_take.b .nil pass0 (pa_cons (pv 0) (pa_cons pe_int pa_nil)))) (pa_cons (pe_op op_sub (pe_op op_sub pe_int pe_int) (pe_call c_law_take.ok (hr.mono (by decide)) (by rfl) c_law_take.m c_law_take.kp c_law_take.b .nil pass0 (pa_cons (pv 0) (pa_cons pe_int pa_nil)))) pa_nil)))))
    (pss_cons (ps_expr (pe_bm PySem.F.plainAttrs_list PySem.F.slot_list_append PySem.F.type_list_append mt_append (pv 5) (pa_cons (pe_op op_sub (pe_op op_sub pe_int pe_int) (pe_call c_law_take.ok (hr.mono (by decide)) (by rfl) c_law_take.m c_law_take.kp c_law_take.b .nil pass0 (pa_cons (pv 0) (pa_cons pe_int pa_nil)))) pa_nil)))
    (pss_cons (ps_set (i := 5) sc.nd rfl (.inl rfl) (pe_ix ix_list (pe_op op_cat (pv 5) (pe_lst (pa_cons (pe_op op_add pe_int (pe_call c_law_take.ok (hr.mono (by decide)) (by rfl) c_law_take.m c_law_take.kp c_law_take.b .nil pass0 (pa_cons (pv 0) (pa_cons pe_int pa_nil)))) (pa_cons (pe_op op_sub (pe_op op_sub pe_int pe_int) (pe_call c_law_take.ok (hr.mono (by decide)) (by rfl) c_law_take.m c_law_take.kp c_law_take.b .nil pass0 (pa_cons (pv 0) (pa_cons pe_int pa_nil)))) (pa_cons pe_int pa_nil))))) (pv 2) (fun _ _ => rfl)))
    (pss_cut (ps_if (PW.pt (pw_and (pt_cmpR op_eq (pv 1) pe_str (nomark _)) (pw_and1 (pt_cmpR op_eq (pv 2) pe_int (nomark _)))))
      (pss_one (ps_par (by rfl) sc.nd (i := 4) (j := 5) rfl rfl (by decide) rfl rfl (pa_cons (pe_op op_sub (pe_op op_mod (pv 4) pe_int) pe_int) (pa_cons pe_int pa_nil)) (by rfl))) pss_nil)
    (pss_cut (ps_if (pt_cmpR op_eq (pv 1) pe_str (nomark _))
      (pss_one (ps_set (i := 5) sc.nd rfl (.inl rfl) (pe_op op_sub (pv 5) (pe_ix ix_list (pe_lst (pa_cons pe_int (pa_cons pe_int (pa_cons pe_int (pa_cons pe_int (pa_cons pe_int (pa_cons pe_int (pa_cons pe_int pa_nil)))))))) (pv 2) (fun _ _ => rfl))))) pss_nil)
    (pss_cut (ps_if (pt_cmpR op_in_seq (pv 1) (pe_tup (pa_cons pe_str (pa_cons pe_str pa_nil))) (by with_unfolding_all rfl))
      (pss_one (ps_set (i := 4) sc.nd rfl (.inl rfl) (pe_callB call_abs (by rfl) T.abs (by decide +kernel) (pa_cons (pv 4) pa_nil)))) pss_nil)
    (pss_cut (ps_if (PW.pt (pw_and (pt_cmpR op_eq (pv 1) pe_str (nomark _)) (pw_and1 (pt_cmpR op_eq (pv 4) pe_int (nomark _)))))
      (pss_one (ps_set (i := 4) sc.nd rfl (.inl rfl) pe_int)) pss_nil)
    (pss_one (ps_ret (pe_call c_law_odd.ok (hr.mono (by decide)) (by rfl) c_law_odd.m c_law_odd.kp c_law_odd.b .nil pass0 (pa_cons (pv 4) (pa_cons (pv 5) pa_nil))))))))))))))), ?_⟩
    have tk : ∀ {σ : L2.St} {H' : Hp} (n : Int), σ[0]? = some (some (.ref p)) → 0 < n → n ≤ 1000 → EvI p (fun z => 0 ≤ z ∧ z < n) (tCall spTake [] E0 (tCons (tVar 0) (tCons (tC (.int n)) tNil))) σ H' := fun n hi h0 h1 =>
      evi_take hi (evi_c (S := fun z => z = n) rfl) (fun m hm => by subst hm; exact ⟨h0, log_small (k := 10) h0 (by omega) (by decide)⟩) (fun m z hm a b => by subst hm; exact ⟨a, b⟩)
    refine k_asg (tk 7 rfl (by decide) (by decide)) l0 fun v1 H1 k1 l1 ⟨way, e1, w0, w7⟩ => ?_
    subst e1
    have bm := mostF_le w0 w7
    refine k_asg (P := fun _ v => ∃ z, v = .int z ∧ 0 < z ∧ z ≤ mostF way) (evi_ix (U := fun z => 0 < z ∧ z ≤ mostF way) (W := fun z => z = way) (evk_lst
      (evis_cons (S := fun z => 0 < z ∧ z ≤ mostF 0) (evi_c ⟨by decide, by decide⟩)
      (evis_cons (S := fun z => 0 < z ∧ z ≤ mostF 1) (evi_opC (S := fun z => z = 2) (T := fun z => z = 16) (evi_c rfl) (evi_c rfl) (fun a b ha hb => by subst ha hb; exact ⟨by decide, by decide, by decide⟩) (fun a b ha hb => by subst ha hb; decide +kernel))
      (evis_cons (S := fun z => 0 < z ∧ z ≤ mostF 2) (evi_opC (S := fun z => z = 2) (T := fun z => z = 60) (evi_c rfl) (evi_c rfl) (fun a b ha hb => by subst ha hb; exact ⟨by decide, by decide, by decide⟩) (fun a b ha hb => by subst ha hb; decide +kernel))
      (evis_cons (S := fun z => 0 < z ∧ z ≤ mostF 3) (evi_opC (S := fun z => z = 2 ^ 120) (T := fun z => z = 2 ^ 60) (evi_opC (S := fun z => z = 2 ^ 60) (T := fun z => z = 2 ^ 60) (evi_opC (S := fun z => z = 2) (T := fun z => z = 60) (evi_c rfl) (evi_c rfl) (fun a b ha hb => by subst ha hb; exact ⟨by decide, by decide, by decide⟩) (fun a b ha hb => by subst ha hb; decide +kernel)) (evi_opC (S := fun z => z = 2) (T := fun z => z = 60) (evi_c rfl) (evi_c rfl) (fun a b ha hb => by subst ha hb; exact ⟨by decide, by decide, by decide⟩) (fun a b ha hb => by subst ha hb; decide +kernel)) (fun a b ha hb => by subst ha hb; show CMulX _ _; unfold CMulX; decide +kernel) (fun a b ha hb => by subst ha hb; decide +kernel)) (evi_opC (S := fun z => z = 2) (T := fun z => z = 60) (evi_c rfl) (evi_c rfl) (fun a b ha hb => by subst ha hb; exact ⟨by decide, by decide, by decide⟩) (fun a b ha hb => by subst ha hb; decide +kernel)) (fun a b ha hb => by subst ha hb; show CMulX _ _; unfold CMulX; decide +kernel) (fun a b ha hb => by subst ha hb; decide +kernel))
      (evis_cons (S := fun z => 0 < z ∧ z ≤ mostF 4) (evi_opC (S := fun z => z = 2 ^ 120) (T := fun z => z = 2 ^ 60) (evi_opC (S := fun z => z = 2 ^ 60) (T := fun z => z = 2 ^ 60) (evi_opC (S := fun z => z = 2) (T := fun z => z = 60) (evi_c rfl) (evi_c rfl) (fun a b ha hb => by subst ha hb; exact ⟨by decide, by decide, by decide⟩) (fun a b ha hb => by subst ha hb; decide +kernel)) (evi_opC (S := fun z => z = 2) (T := fun z => z = 60) (evi_c rfl) (evi_c rfl) (fun a b ha hb => by subst ha hb; exact ⟨by decide, by decide, by decide⟩) (fun a b ha hb => by subst ha hb; decide +kernel)) (fun a b ha hb => by subst ha hb; show CMulX _ _; unfold CMulX; decide +kernel) (fun a b ha hb => by subst ha hb; decide +kernel)) (evi_opC (S := fun z => z = 2) (T := fun z => z = 60) (evi_c rfl) (evi_c rfl) (fun a b ha hb => by subst ha hb; exact ⟨by decide, by decide, by decide⟩) (fun a b ha hb => by subst ha hb; decide +kernel)) (fun a b ha hb => by subst ha hb; show CMulX _ _; unfold CMulX; decide +kernel) (fun a b ha hb => by subst ha hb; decide +kernel))
      (evis_cons (S := fun z => 0 < z ∧ z ≤ mostF 5) (evi_c ⟨by decide, by decide⟩)
      (evis_cons (S := fun z => 0 < z ∧ z ≤ mostF 6) (evi_c ⟨by decide, by decide⟩) evis_nil)))))))) (evi_var rfl rfl)
      (fun z hz => by subst hz; refine ⟨w0, ?_⟩; rcases seven w0 w7 with rfl | rfl | rfl | rfl | rfl | rfl | rfl <;> exact ⟨_, rfl, fun z h => h⟩)) l1 fun v2 H2 k2 l2 ⟨most, e2, m0, m1⟩ => ?_
    subst e2
    have p182 : (2 : Int) ^ 182 = 2 ^ 180 * 4 := by decide +kernel
    refine k_asg (P := fun _ v => ∃ z : Int, v = .int z ∧ (z.natAbs : Int) ≤ mostF way) (evi_op (U := fun z => (z.natAbs : Int) ≤ mostF way) (S := fun z => 0 ≤ z ∧ z < 2 * most + 1) (T := fun z => z = most) (evi_take (N := fun z => z = 2 * most + 1) rfl (evi_op (S := fun z => z = 2 * most) (T := fun z => z = 1) (evi_opC (S := fun z => z = 2) (T := fun z => z = most) (evi_c rfl) (evi_var rfl rfl) (fun a b ha hb => by subst ha hb; exact .inl ⟨by decide, by decide⟩) (fun a b ha hb => by subst ha hb; rfl)) (evi_c rfl) (fun a b ha hb => by subst ha hb; rfl)) (fun n hn => by subst hn; exact ⟨by omega, log_small (k := 182) (by omega) (by omega) (by decide)⟩) (fun n z hn a b => by subst hn; exact ⟨a, b⟩)) (evi_var rfl rfl) (fun a b ha hb => by subst hb; omega)) l2 fun v3 H3 k3 l3 ⟨m, e3, hm⟩ => ?_
    subst e3
    have tk4 : ∀ {σ : L2.St} {H' : Hp} (n c d : Int), σ[0]? = some (some (.ref p)) → 0 < n → n ≤ 1000 → EvI p (fun z => c - n < z ∧ z ≤ c) (tOp (rI0 fun i j => .int (i - j)) (tOp (rI0 fun i j => .int (i - j)) (tC (.int 0)) (tC (.int (-c)))) (tCall spTake [] E0 (tCons (tVar 0) (tCons (tC (.int n)) tNil)))) σ H' := fun n c d hi h0 h1 =>
      evi_op (S := fun z => z = c) (evi_op (S := fun z => z = 0) (T := fun z => z = -c) (evi_c rfl) (evi_c rfl) (fun a b ha hb => by subst ha hb; omega)) (tk n hi h0 h1) (fun a b ha hb => by subst ha; omega)
    refine k_asgL (evis_cons (S := fun z => loF 0 ≤ z ∧ z ≤ hiF 0) (evi_op (T := fun z => z = 4) (tk 7 rfl (by decide) (by decide)) (evi_c rfl) (fun a b ha hb => by subst hb; show -4 ≤ a - 4 ∧ a - 4 ≤ 2; omega))
      (evis_cons (S := fun z => loF 1 ≤ z ∧ z ≤ hiF 1) (evi_imp (tk4 16 (-6) 0 rfl (by decide) (by decide)) (fun z h => by show -21 ≤ z ∧ z ≤ -6; omega))
      (evis_cons (S := fun z => loF 2 ≤ z ∧ z ≤ hiF 2) (evi_imp (tk4 30 (-40) 0 rfl (by decide) (by decide)) (fun z h => by show -69 ≤ z ∧ z ≤ -40; omega)) evis_nil))) l3 (by decide) fun L zs H4 k4 l4 fL nL hLl aL => ?_
    have kH3 := (k1.trans k2).trans k3
    have fLH := fresh_keep kH3 fL nL
    refine ⟨.ref L, rfl, .inl ⟨rfl, _, sq_of hLl⟩, ?_⟩
    refine (evi_imp (T := fun z => loF 3 ≤ z ∧ z ≤ hiF 3) (tk4 (σ := [some (.ref p), some (.str w), some (.int way), some (.int most), some (.int m), some (.ref L)]) 20 (-170) 0 rfl (by decide) (by decide)) (fun z h => by show -189 ≤ z ∧ z ≤ -170; omega)) H4 (Keeps.refl p H4) l4 _ fun v5 H5 k5 l5 ⟨e4, e5, h4⟩ => ?_
    subst e5
    have hL5 := k5 _ _ hLl nL
    refine ⟨L, _, _, rfl, rfl, hL5, sz_lt (by rw [List.length_map, all2_len aL]; decide), ?_⟩
    have k6 : Keeps p H (upd H5 L (.lst (zs.map V.int ++ [.int e4]))) := keeps_mut ((kH3.trans k4).trans k5) fLH
    have l6 : Pl p (upd H5 L (.lst (zs.map V.int ++ [.int e4]))) := by
      obtain ⟨x, hx⟩ := l5
      exact ⟨x, by rw [upd_ne (Ne.symm nL)]; exact hx⟩
    have L6 : LiAt p ([fun z => loF 0 ≤ z ∧ z ≤ hiF 0, fun z => loF 1 ≤ z ∧ z ≤ hiF 1, fun z => loF 2 ≤ z ∧ z ≤ hiF 2] ++ [fun z => loF 3 ≤ z ∧ z ≤ hiF 3]) (upd H5 L (.lst (zs.map V.int ++ [.int e4]))) (.ref L) := ⟨L, zs ++ [e4], rfl, nL, by rw [List.map_append]; exact upd_same, all2_app aL ⟨h4, trivial⟩⟩
    generalize upd H5 L (.lst (zs.map V.int ++ [.int e4])) = H6 at *
    dsimp only
    refine k_asg (P := fun _ v => ∃ z, v = .int z ∧ loF way ≤ z ∧ z ≤ hiF way) (evi_ix (U := fun z => loF way ≤ z ∧ z ≤ hiF way) (W := fun z => z = way) (evk_cat (evk_var rfl (fun H1 k _ => li_keep L6 k)) (evk_lst
      (evis_cons (S := fun z => loF 4 ≤ z ∧ z ≤ hiF 4) (evi_op (S := fun z => z = 100) (evi_c rfl) (tk 500 rfl (by decide) (by decide)) (fun a b ha hb => by subst ha; show 100 ≤ 100 + b ∧ 100 + b ≤ 599; omega))
      (evis_cons (S := fun z => loF 5 ≤ z ∧ z ≤ hiF 5) (evi_imp (tk4 490 (-300) 0 rfl (by decide) (by decide)) (fun z h => by show -789 ≤ z ∧ z ≤ -300; omega))
      (evis_cons (S := fun z => loF 6 ≤ z ∧ z ≤ hiF 6) (evi_c ⟨by decide, by decide⟩) evis_nil))))) (evi_var rfl rfl)
      (fun z hz => by subst hz; refine ⟨w0, ?_⟩; rcases seven w0 w7 with rfl | rfl | rfl | rfl | rfl | rfl | rfl <;> exact ⟨_, rfl, fun z h => h⟩)) l6 fun v7 H7 k7 l7 ⟨e, e7, el, eh⟩ => ?_
    subst e7
    have k67 := k6.trans k7
    have wb : -789 ≤ loF way ∧ hiF way ≤ 599 := by rcases seven w0 w7 with rfl | rfl | rfl | rfl | rfl | rfl | rfl <;> decide
    have p181 : (2 : Nat) ^ 181 = 2 ^ 180 * 2 := by decide +kernel
    have p180 : ((2 ^ 180 : Nat) : Int) = 2 ^ 180 := by decide +kernel
    have b0 : m.natAbs < 2 ^ 181 := by omega
    refine q_cut (M := fun σ' H' => Keeps p H H' ∧ Pl p H' ∧ ∃ m e : Int, σ' = [some (.ref p), some (.str w), some (.int way), some (.int most), some (.int m), some (.int e)] ∧ m.natAbs < 2 ^ 181 ∧ -789 ≤ e ∧ e ≤ 599 ∧ (w = "exp" → (m.natAbs : Int) ≤ (if way = 4 then 999 else mostF way) ∧ e ≤ (if way = 4 then 0 else hiF way))) ?_ ?_
    · refine ⟨.str w, rfl, rfl, _, rfl, ite2 (fun h1 => ?_) (fun h1 => ?_)⟩
      · refine ⟨.int way, rfl, rfl, _, rfl, ite2 (fun h2 => ?_) (fun h2 => ?_)⟩
        · have e2 : way = 4 := V.int.inj (of_decide_eq_true h2)
          refine ⟨.int m, rfl, m, 1999, rfl, rfl, by show (0 : Int) < _; decide, _, 999, rfl, rfl, _, _, rfl, ?_⟩
          have y0 := Int.emod_nonneg m (show (1999 : Int) ≠ 0 by decide)
          have y1 := Int.emod_lt_of_pos m (show (0 : Int) < 1999 by decide)
          have q999 : (999 : Nat) < 2 ^ 181 := by decide +kernel
          refine ⟨k67, l7, m % 1999 - 999, 0, rfl, by omega, by decide, by decide, fun _ => ?_⟩
          rw [if_pos e2, if_pos e2]
          exact ⟨by omega, by decide⟩
        · have e2 : way ≠ 4 := fun z => h2 (decide_eq_true (congrArg V.int z))
          refine ⟨k67, l7, m, e, rfl, b0, by omega, by omega, fun _ => ?_⟩
          rw [if_neg e2, if_neg e2]
          exact ⟨hm, eh⟩
      · have n1 : w ≠ "exp" := fun z => h1 (decide_eq_true (congrArg V.str z))
        exact iteF ⟨k67, l7, m, e, rfl, b0, by omega, by omega, fun z => absurd z n1⟩
    rintro σ' H8 ⟨k8, l8, m8, e8, rfl, b8, r8, s8, x8⟩
    refine q_cut (M := fun σ' H' => Keeps p H H' ∧ Pl p H' ∧ ∃ m e : Int, σ' = [some (.ref p), some (.str w), some (.int way), some (.int most), some (.int m), some (.int e)] ∧ m.natAbs < 2 ^ 181 ∧ -803 ≤ e ∧ e ≤ 599 ∧ (w = "exp" → m.natAbs * 2 ^ e.toNat ≤ 1000 * 2 ^ (-e).toNat)) ?_ ?_
    · refine ⟨.str w, rfl, rfl, _, rfl, ite2 (fun h1 => ?_) (fun h1 => ?_)⟩
      · have e1 : w = "exp" := V.str.inj (of_decide_eq_true h1)
        obtain ⟨x1, x2⟩ := x8 e1
        have sb : 0 ≤ subF way ∧ subF way ≤ 14 := by rcases seven w0 w7 with rfl | rfl | rfl | rfl | rfl | rfl | rfl <;> decide
        refine k_asg1 (P := fun _ v => ∃ z, v = .int z ∧ z = e8 - subF way) (evi_op (S := fun z => z = e8) (T := fun z => z = subF way) (evi_var rfl rfl) (evi_ix (W := fun z => z = way) (evk_lst (evis_cons (S := fun z => z = subF 0) (evi_c rfl) (evis_cons (S := fun z => z = subF 1) (evi_c rfl) (evis_cons (S := fun z => z = subF 2) (evi_c rfl) (evis_cons (S := fun z => z = subF 3) (evi_c rfl) (evis_cons (S := fun z => z = subF 4) (evi_c rfl) (evis_cons (S := fun z => z = subF 5) (evi_c rfl) (evis_cons (S := fun z => z = subF 6) (evi_c rfl) evis_nil)))))))) (evi_var rfl rfl) (fun z hz => by subst hz; refine ⟨w0, ?_⟩; rcases seven w0 w7 with rfl | rfl | rfl | rfl | rfl | rfl | rfl <;> exact ⟨_, rfl, fun z h => h⟩)) (fun a b ha hb => by rw [ha, hb])) l8 fun v9 H9 k9 l9 ⟨e9, ee, h9⟩ => ?_
        subst ee h9
        exact ⟨k8.trans k9, l9, m8, e8 - subF way, rfl, b8, by omega, by omega, fun _ => exp_ok w0 w7 x1 x2⟩
      · have n1 : w ≠ "exp" := fun z => h1 (decide_eq_true (congrArg V.str z))
        exact ⟨k8, l8, m8, e8, rfl, b8, by omega, s8, fun z => absurd z n1⟩
    clear k8 l8 b8 r8 s8 x8
    rintro σ' H8 ⟨k8, l8, m8, e8, rfl, b8, r8, s8, x8⟩
    refine q_cut (M := fun σ' H' => Keeps p H H' ∧ Pl p H' ∧ ∃ m e : Int, σ' = [some (.ref p), some (.str w), some (.int way), some (.int most), some (.int m), some (.int e)] ∧ m.natAbs < 2 ^ 181 ∧ -803 ≤ e ∧ e ≤ 599 ∧ (w = "exp" → m.natAbs * 2 ^ e.toNat ≤ 1000 * 2 ^ (-e).toNat) ∧ (w = "root" ∨ w = "log" → 0 ≤ m)) ?_ ?_
    · refine ⟨.str w, rfl, by show 2 ≤ sizeLine; decide, fun r hr9 => ?_⟩
      have y9 : Keeps p H (upd H8 r (.tup [.str "root", .str "log"])) := k8.trans (keeps_new hr9)
      have z9 := pl_new (o := .tup [.str "root", .str "log"]) l8 hr9
      refine ⟨r, _, rfl, .inr (st_of upd_same), rfl, rfl, _, rfl, ite2 (fun h1 => ?_) (fun h1 => ?_)⟩
      · have e1 : w = "root" ∨ w = "log" := in_2 h1
        have n1 : w ≠ "exp" := by
          rcases e1 with z | z <;> rw [z] <;> decide +kernel
        refine ⟨.int m8, rfl, m8, rfl, y9, z9, (if m8 < 0 then -m8 else m8), e8, rfl, ?_, r8, s8, fun z => absurd z n1, fun _ => ?_⟩
        · split <;> omega
        · split <;> omega
      · have n1 : ¬ (w = "root" ∨ w = "log") := fun z => h1 (in_2' z)
        exact ⟨y9, z9, m8, e8, rfl, b8, r8, s8, x8, fun z => absurd z n1⟩
    clear k8 l8 b8 r8 s8 x8
    rintro σ' H8 ⟨k8, l8, m8, e8, rfl, b8, r8, s8, x8, y8⟩
    refine q_cut (M := fun σ' H' => Keeps p H H' ∧ Pl p H' ∧ ∃ m e : Int, σ' = [some (.ref p), some (.str w), some (.int way), some (.int most), some (.int m), some (.int e)] ∧ m.natAbs < 2 ^ 181 ∧ -803 ≤ e ∧ e ≤ 599 ∧ (w = "exp" → m.natAbs * 2 ^ e.toNat ≤ 1000 * 2 ^ (-e).toNat) ∧ (w = "root" → 0 ≤ m) ∧ (w = "log" → 0 < m)) ?_ ?_
    · refine ⟨.str w, rfl, rfl, _, rfl, ite2 (fun h1 => ?_) (fun h1 => ?_)⟩
      · have e1 : w = "log" := V.str.inj (of_decide_eq_true h1)
        have n1 : w ≠ "exp" := by rw [e1]; decide +kernel
        refine ⟨.int m8, rfl, rfl, _, rfl, ite2 (fun h2 => ?_) (fun h2 => ?_)⟩
        · exact ⟨k8, l8, 3, e8, rfl, by decide +kernel, r8, s8, fun z => absurd z n1, fun _ => by decide, fun _ => by decide⟩
        · have n2 : m8 ≠ 0 := fun z => h2 (decide_eq_true (congrArg V.int z))
          have := y8 (.inr e1)
          exact ⟨k8, l8, m8, e8, rfl, b8, r8, s8, fun z => absurd z n1, fun _ => by omega, fun _ => by omega⟩
      · have n1 : w ≠ "log" := fun z => h1 (decide_eq_true (congrArg V.str z))
        exact iteF ⟨k8, l8, m8, e8, rfl, b8, r8, s8, x8, fun z => y8 (.inl z), fun z => absurd z n1⟩
    clear k8 l8 b8 r8 s8 x8 y8
    rintro σ' H8 ⟨k8, l8, m8, e8, rfl, b8, r8, s8, x8, y8, z8⟩
    obtain ⟨po, bo⟩ := place_ok (w := w) b8 r8 s8 y8 z8 x8
    exact k_ret (evk_nof (K := K) (B := 3000) (S := fun z => z = m8) (T := fun z => z = e8) (R := fun a b => a = m8 ∧ b = e8) (evi_var rfl rfl) (evi_var rfl rfl) (fun a b ha hb => by subst ha hb; exact ⟨⟨rfl, rfl⟩, bo⟩)) l8 fun v H9 k9 l9 ⟨a, b, ⟨ea, eb⟩, g⟩ => by
      subst ea eb
      exact q v _ H9 (k8.trans k9) l9 g po
def spGood (K : PySem.W.Frag) : Sp := fun vs H Q _ => ∃ w v n, vs = [.str w, v] ∧ w ∈ fns ∧ Gn K H v n 3000 ∧ PlaceOf w n ∧ ∀ H', Ex H H' → Q (.bl true) H'
theorem exRoot_some {n r : Int × Int} (hn : isNumB n.1 n.2 = true) (h0 : 0 ≤ n.1) (hb : Bd n 3000) (h : exRoot n = some r) : isNumB r.1 r.2 = true ∧ Bd r 3000 ∧ pmul r r = n := by
  unfold exRoot at h
  by_cases h1 : n.2 % 2 = 1
  · rw [if_pos h1] at h
    cases h
  · rw [if_neg h1] at h
    by_cases h2 : froot n.1 * froot n.1 = n.1
    · rw [if_pos h2] at h
      have e : r = (froot n.1, n.2 / 2) := (Option.some.inj h).symm
      rw [e]
      have hnum : isNumB (froot n.1) (n.2 / 2) = true := by
        by_cases z : n.1 = 0
        · have e0 := num_zero hn z
          rw [e0]
          have : froot 0 = 0 := froot_of ⟨by decide, by decide, by decide⟩
          show isNumB (froot 0) (0 / 2) = true
          rw [this]
          rfl
        · have o := num_odd hn z
          refine odd_num ?_
          rw [← h2] at o
          rcases Int.emod_two_eq (froot n.1) with y | y
          · rw [Int.mul_emod, y] at o
            exact absurd o (by decide)
          · exact y
      refine ⟨hnum, ⟨Nat.lt_of_le_of_lt ?_ hb.1, ?_⟩, ?_⟩
      · show (froot n.1).natAbs ≤ n.1.natAbs
        have hr := froot_spec h0
        by_cases z : froot n.1 ≤ n.1
        · have := hr.1
          omega
        · have h1 := hr.1
          have h3 : froot n.1 * 1 ≤ froot n.1 * froot n.1 := Int.mul_le_mul_of_nonneg_left (by omega) h1
          omega
      · show (n.2 / 2).natAbs ≤ 3000
        have := hb.2
        omega
      · show nrm (froot n.1 * froot n.1) (n.2 / 2 + n.2 / 2) = n
        rw [h2, show n.2 / 2 + n.2 / 2 = n.2 by omega, nrm_self hn]
    · rw [if_neg h2] at h
      cases h
theorem ok_law_good {f f1 f2 f3 f4 : Addr} {fd fd1 fd2 fd3 fd4 : FuncData} {g1 g2 : List Value → List Value → List Value} (T : Top mg) (F : FnP K "_law_good" s_law_good f fd) (c_law_exact : Cal P w K mg base CX0 2 "_law_exact" ["_law_word_told", "_law_number_told"] (spExA K) f1 fd1) (c_exact_worth : Cal P w K mg base CX0 5 "exact_worth" ["word", "number"] (spExW K) f2 fd2) (c_times : Cal P w K mg base CX0 3 "times" ["one", "other"] (spTwo K pmul) f3 fd3) (c_is_exact : Cal P w K mg base CX0 6 "is_exact" ["word", "number"] (spIsEx K) f4 fd4)
    (c_exact_worth_kb_number_word : KBn K fd2 ["word", "number"] 0 ["number", "word"] g1 (fun _ zs => zs.reverse)) (c_is_exact_kb_number_word : KBn K fd4 ["word", "number"] 0 ["number", "word"] g2 (fun _ zs => zs.reverse)) : FnOk P w K mg base CX0 7 f fd ["_law_word_own", "_law_number_own"] (spGood K) := by
  have sc := sc_law_good
  refine ok0 F sc (fun vs H Q E h => ?_) (fun cdv A outer s H vs Q E hr h => ?_)
  · obtain ⟨w, v, n, rfl, _⟩ := h
    rfl
  · obtain ⟨w, v, n, rfl, hw, gv, hp, q⟩ := h
    refine ⟨_, (pss_cons (ps_set (i := 2) sc.nd rfl (.inl rfl) (pe_call c_law_exact.ok (hr.mono (by decide)) (by rfl) c_law_exact.m c_law_exact.kp c_law_exact.b .nil pass0 (pa_cons (pv 0) (pa_cons (pv 1) pa_nil))))
    (pss_cons (ps_set (i := 3) sc.nd rfl (.inl rfl) (pe_call c_exact_worth.ok (hr.mono (by decide)) (by rfl) c_exact_worth.m c_exact_worth.kp c_exact_worth.b .nil pass0 (pa_cons (pv 0) (pa_cons (pv 1) pa_nil))))
    (pss_cons (ps_if (PW.pt (pw_or (pt_cmpR (op_neD hr.units) (pv 3) (pv 2) (nomark _)) (pw_or1 (pt_cmpR (op_neD hr.units) (pe_callN0 c_exact_worth.ok (hr.mono (by decide)) (by rfl) c_exact_worth.m c_exact_worth.kp c_exact_worth_kb_number_word pass0 (pk_cons (pv 1) (pk_cons (pv 0) pk_nil))) (pv 2) (nomark _)))))
      (pss_one (ps_ret pe_bl)) pss_nil)
    (pss_cut (ps_if (PW.pt (pw_and (pt_cmpR op_notN (pv 2) pe_non (nomark _)) (pw_and1 (pt_not (pt_val (pe_callB call_isi (by rfl) T.isinstance (by decide +kernel) (pa_cons (pv 3) (pa_cons (pe_bltn (v := .ty "tuple") (by rfl) T.ty_tuple (by decide +kernel) rfl) pa_nil))))))))
      (pss_one (ps_ret pe_bl)) pss_nil)
    (pss_cut (ps_if (PW.pt (pw_and (pt_cmpR op_eq (pv 0) pe_str (nomark _)) (pw_and (pt_cmpR op_notN (pv 2) pe_non (nomark _)) (pw_and1 (pt_cmpR (op_neD hr.units) (pe_call c_times.ok (hr.mono (by decide)) (by rfl) c_times.m c_times.kp c_times.b .nil pass0 (pa_cons (pv 3) (pa_cons (pv 3) pa_nil))) (pv 1) (nomark _))))))
      (pss_one (ps_ret pe_bl)) pss_nil)
    (pss_cons (ps_set (i := 4) sc.nd rfl (.inl rfl) (pe_call c_is_exact.ok (hr.mono (by decide)) (by rfl) c_is_exact.m c_is_exact.kp c_is_exact.b .nil pass0 (pa_cons (pv 0) (pa_cons (pv 1) pa_nil))))
    (pss_cons (ps_if (PW.pt (pw_or (pt_not (pt_val (pe_callB call_isi (by rfl) T.isinstance (by decide +kernel) (pa_cons (pv 4) (pa_cons (pe_bltn (v := .ty "bool") (by rfl) T.ty_bool (by decide +kernel) rfl) pa_nil))))) (pw_or1 (pt_cmpR op_ne (pv 4) (pe_cmpR op_notN (pv 2) pe_non (nomark _)) (nomark _)))))
      (pss_one (ps_ret pe_bl)) pss_nil)
    (pss_one (ps_ret (pe_cmpR op_eq (pe_callN0 c_is_exact.ok (hr.mono (by decide)) (by rfl) c_is_exact.m c_is_exact.kp c_is_exact_kb_number_word pass0 (pk_cons (pv 1) (pk_cons (pv 0) pk_nil))) (pv 4) (nomark _))))))))))), ?_⟩
    refine ⟨.str w, rfl, v, rfl, w, v, n, rfl, gv, hp, fun H1 d x1 hd => ?_⟩
    refine ⟨.str w, rfl, v, rfl, w, v, n, rfl, hw, gv.ex x1, hp, fun H2 u x2 hu => ?_⟩
    have x12 := x1.trans x2
    have hd := optAt_ex x2 hd
    refine ⟨u, rfl, d, rfl, _, _, optAt_dp hu, optAt_dp hd, opt_shaped _, opt_shaped _, false, ?_, iteF ?_⟩
    · rw [SeqAt.eqv_refl _ (opt_lay _)]
      rfl
    refine ⟨v, rfl, .str w, rfl, rfl, rfl, w, v, n, rfl, hw, gv.ex x12, hp, fun H3 u3 x3 hu3 => ?_⟩
    have hd := optAt_ex x3 hd
    have hu := optAt_ex x3 hu
    have x13 := x12.trans x3
    refine ⟨d, rfl, _, _, optAt_dp hu3, optAt_dp hd, opt_shaped _, opt_shaped _, false, ?_, iteF ?_⟩
    · rw [SeqAt.eqv_refl _ (opt_lay _)]
      rfl
    refine q_cut (M := fun σ' H' => σ' = [some (.str w), some v, some d, some u, none] ∧ Ex H3 H') ?_ ?_
    · refine ⟨d, rfl, rfl, _, rfl, ?_⟩
      rw [optAt_not hd]
      cases he : exW w n with
      | none => exact iteF (iteF ⟨rfl, Ex.refl H3⟩)
      | some m =>
        rw [he] at hu
        obtain ⟨r, rfl, hr1⟩ := hu
        exact iteT (rd_tup (i := 3) rfl hr1 ⟨true, rfl, iteF ⟨rfl, Ex.refl H3⟩⟩)
    rintro σ' H4 ⟨rfl, x4⟩
    refine q_cut (M := fun σ' H' => σ' = [some (.str w), some v, some d, some u, none] ∧ Ex H4 H') ?_ ?_
    · refine ⟨.str w, rfl, rfl, _, rfl, ite2 (fun h1 => ?_) (fun _ => iteF ⟨rfl, Ex.refl H4⟩)⟩
      have e1 : w = "root" := V.str.inj (of_decide_eq_true h1)
      refine ⟨d, rfl, rfl, _, rfl, ?_⟩
      rw [optAt_not hd]
      have ew : exW w n = exRoot n := by
        unfold exW
        rw [if_pos e1]
      cases he : exW w n with
      | none => exact iteF (iteF ⟨rfl, Ex.refl H4⟩)
      | some m =>
        rw [he] at hu
        obtain ⟨hnb, hbd, hpm⟩ := exRoot_some gv.nb (hp.1 e1) gv.bd (ew.symm.trans he)
        have gu : Gn K H4 u m 3000 := ⟨numAt_ex x4 hu, hnb, hbd⟩
        refine iteT ((evt_same (evn_times (evn_var (σ := [some (.str w), some v, some d, some u, none]) (i := 3) rfl gu) (evn_var (i := 3) rfl gu)) (evn_var (i := 1) rfl (gv.ex (x13.trans x4))) hpm) H4 (Ex.refl H4) _ fun H5 x5 => iteF ⟨rfl, x5⟩)
    rintro σ' H5 ⟨rfl, x5⟩
    have x15 := (x13.trans x4).trans x5
    refine ⟨.str w, rfl, v, rfl, w, v, n, rfl, hw, gv.ex x15, hp, fun H6 x6 => ?_⟩
    refine rd_isi (i := 4) rfl (ty_bl _) kit_bb ⟨true, rfl, iteF ?_⟩
    refine ⟨.bl (exW w n).isSome, rfl, d, rfl, rfl, ?_⟩
    rw [optAt_not hd]
    refine ⟨rfl, _, rfl, iteNS (by simp) ?_⟩
    refine ⟨v, rfl, .str w, rfl, rfl, rfl, w, v, n, rfl, hw, gv.ex (x15.trans x6), hp, fun H7 x7 => ⟨.bl (exW w n).isSome, rfl, rfl, ?_⟩⟩
    rw [decide_eq_true rfl]
    exact q H7 ((x15.trans x6).trans x7)
def spLaw (K : PySem.W.Frag) : Sp := fun vs H Q _ => ∃ (a : Addr) (ns : List Int), vs = [.ref a] ∧ SqL K H a (ns.map V.int) ∧ ∀ H', Q (.bl true) H'
theorem place_root {a b : Int} (h : 0 ≤ a) : PlaceOf "root" (nrm a b) := ⟨fun _ => sgn_nn h, fun z => absurd z (by decide +kernel), fun z => absurd z (by decide +kernel), fun z => absurd rfl z⟩
/-- a pair of whole numbers, the first not below nought -/
def Sq2 (H : Hp) (v : V) : Prop := ∃ (r : Addr) (a b : Int), v = .ref r ∧ H r = some (.tup [.int a, .int b]) ∧ 0 ≤ a ∧ a.natAbs < 2 ^ 250 ∧ b.natAbs ≤ 400
theorem sq2_mono : Mono Sq2 := fun _ _ _ e ⟨r, a, b, e1, h, h1⟩ => ⟨r, a, b, e1, e _ _ h, h1⟩
theorem sq2_mk {σ : L2.St} {H : Hp} {ta tb : TE} {a b : Int} (ha : Ev ta σ H (.int a)) (hb : Ev tb σ H (.int b)) (h0 : 0 ≤ a) (h1 : a.natAbs < 2 ^ 250) (h2 : b.natAbs ≤ 400) : EvP Sq2 (tTup (tCons ta (tCons tb tNil))) σ H := fun H1 e1 Q q =>
  ha H1 e1 _ fun H2 e2 => hb H2 (e1.trans e2) _ fun H3 e3 => ⟨by show 2 ≤ sizeLine; decide, fun p hp => q (.ref p) _ ((e2.trans e3).trans (Ex.new hp)) ⟨p, a, b, rfl, upd_same, h0, h1, h2⟩⟩
/-- a fixed number -/
def Fx (K : PySem.W.Frag) (H : Hp) (v : V) : Prop := ∃ n, n ∈ ([(0, 0), (1, 0), (1, 1), (1, -1), (1, 2), (1, -2), (9, 0), (9, -3), (1, -800), (1, 799)] : List (Int × Int)) ∧ Gn K H v n 3000
theorem fx_mono : Mono (Fx K) := fun _ _ _ e ⟨n, h, g⟩ => ⟨n, h, g.ex e⟩
theorem fx_lit {σ : L2.St} {H : Hp} {ta tb : TE} {m e : Int} (ha : Ev ta σ H (.int m)) (hb : Ev tb σ H (.int e)) (hn : isNumB m e = true) (hB : Bd (m, e) 3000) (hm : (m, e) ∈ ([(0, 0), (1, 0), (1, 1), (1, -1), (1, 2), (1, -2), (9, 0), (9, -3), (1, -800), (1, 799)] : List (Int × Int))) : EvP (Fx K) (tTup (tCons ta (tCons tb tNil))) σ H := fun H1 e1 Q q =>
  (evn_lit (K := K) ha hb hn hB) H1 e1 Q fun v H2 e2 g => q v H2 e2 ⟨_, hm, g⟩
theorem fx_place {w : Str} (hw : w ∈ fns) {n : Int × Int} (hn : n ∈ ([(0, 0), (1, 0), (1, 1), (1, -1), (1, 2), (1, -2), (9, 0), (9, -3), (1, -800), (1, 799)] : List (Int × Int))) (h1 : ¬ (w = "exp" ∧ n = (1, 799))) (h2 : ¬ (w = "log" ∧ n = (0, 0))) : PlaceOf w n := by
  have hpos : 0 ≤ n.1 ∧ (n ≠ (0, 0) → 0 < n.1) ∧ (n.1 = 0 ∨ psize n < 800) ∧ (n ≠ (1, 799) → pord (-125, 3) n ≤ 0 ∧ pord n (125, 3) ≤ 0) := by
    simp only [List.mem_cons, List.not_mem_nil, or_false] at hn
    rcases hn with rfl | rfl | rfl | rfl | rfl | rfl | rfl | rfl | rfl | rfl
    all_goals first
      | exact ⟨by decide, fun _ => by decide, by first | exact .inl rfl | exact .inr (by decide +kernel), fun _ => ⟨by decide +kernel, by decide +kernel⟩⟩
      | exact ⟨by decide, fun z => absurd rfl z, .inl rfl, fun _ => ⟨by decide +kernel, by decide +kernel⟩⟩
      | exact ⟨by decide, fun _ => by decide, .inr (by decide +kernel), fun z => absurd rfl z⟩
  exact ⟨fun _ => hpos.1, fun z => hpos.2.1 fun y => h2 ⟨z, y⟩, fun z => hpos.2.2.2 fun y => h1 ⟨z, y⟩, fun _ _ _ => hpos.2.2.1⟩
theorem ev_good {σ : L2.St} {H : Hp} {te : TE} {w : Str} {n : Int × Int} (h : EvN K te σ H n 3000) (hw : w ∈ fns) (hp : PlaceOf w n) : Ev (tCall (spGood K) [] E0 (tCons (tC (.str w)) (tCons te tNil))) σ H (.bl true) := fun H1 e Q q =>
  h H1 e _ fun v H2 e2 g => ⟨w, v, n, rfl, hw, g, hp, fun H3 e3 => q H3 (e2.trans e3)⟩
theorem pl_small {w : Str} {n : Int × Int} (h1 : w ≠ "root") (h2 : w ≠ "log") (h3 : w ≠ "exp") (h : n.1 = 0 ∨ psize n < 800) : PlaceOf w n := ⟨fun z => absurd z h1, fun z => absurd z h2, fun z => absurd z h3, fun _ _ _ => h⟩
theorem str_mem {i : Nat} {x : V} (h : (fns.map V.str)[i]? = some x) : ∃ w, w ∈ fns ∧ x = .str w := by
  rw [List.getElem?_map] at h
  cases hf : fns[i]? with
  | none =>
    rw [hf] at h
    cases h
  | some w =>
    rw [hf] at h
    exact ⟨w, List.mem_of_getElem? hf, (Option.some.inj h).symm⟩
theorem q_seqP {tu tz : TS} {D : Ends} {σ : L2.St} {H : Hp} (h : tu { D with nx := tz D } σ H) : tSeq tu tz D σ H := h
def FnL (H : Hp) (L : Addr) : Prop := H L = some (.lst (fns.map V.str))
theorem ok_law {f fc fp fg ft fo : Addr} {fd fdc fdp fdg fdt fdo : FuncData} (T : Top mg) (F : FnP K "law" s_law f fd)
    (c_law_cell : Cal P w K mg base CX0 2 "_law_cell" ["_law_script", "_law_k"] (spCel K) fc fdc) (c_law_place : Cal P w K mg base CX0 2 "_law_place" ["_law_pile", "_law_word_told"] (spPlace K) fp fdp) (c_law_good : Cal P w K mg base CX0 7 "_law_good" ["_law_word_own", "_law_number_own"] (spGood K) fg fdg) (c_law_take : Cal P w K mg base CX0 1 "_law_take" ["_law_pile", "_law_size"] spTake ft fdt) (c_law_odd : Cal P w K mg base CX0 1 "_law_odd" ["_law_m", "_law_e"] spNof fo fdo) : FnOk P w K mg base CX0 8 f fd ["_law_script"] (spLaw K) := by
  have sc := sc_law
  refine ok0 F sc (fun vs H Q E h => ?_) (fun cdv A outer s H vs Q E hr h => ?_)
  · obtain ⟨a, ns, rfl, _⟩ := h
    rfl
  · obtain ⟨a, ns, rfl, hS, q⟩ := h
    refine ⟨_, (pss_cons (ps_set (i := 1) sc.nd rfl (.inl rfl) (pe_lst (pa_cons pe_str (pa_cons pe_str (pa_cons pe_str (pa_cons pe_str (pa_cons pe_str (pa_cons pe_str pa_nil))))))))
    (pss_cons (ps_for PassesOwn.never rfl (pi_range1 (by rfl) T.range (pa_cons pe_int pa_nil)) (pg_name (i := 2) sc.nd rfl (.inl rfl))
      (pss_cons (ps_set (i := 3) sc.nd rfl (.inl rfl) (pe_lst (pa_cons (pe_call c_law_cell.ok (hr.mono (by decide)) (by rfl) c_law_cell.m c_law_cell.kp c_law_cell.b .nil pass0 (pa_cons (pv 0) (pa_cons (pv 2) pa_nil))) pa_nil)))
      (pss_cons (ps_for PassesOwn.never rfl (pi_list (pv 1)) (pg_name (i := 4) sc.nd rfl (.inl rfl))
        (pss_one (ps_if (pt_not (pt_val (pe_call c_law_good.ok (hr.mono (by decide)) (by rfl) c_law_good.m c_law_good.kp c_law_good.b .nil pass0 (pa_cons (pv 4) (pa_cons (pe_call c_law_place.ok (hr.mono (by decide)) (by rfl) c_law_place.m c_law_place.kp c_law_place.b .nil pass0 (pa_cons (pv 3) (pa_cons (pv 4) pa_nil))) pa_nil)))))
          (pss_one (ps_ret pe_bl)) pss_nil)))
      (pss_cons (ps_set (i := 5) sc.nd rfl (.inl rfl) (pe_call c_law_take.ok (hr.mono (by decide)) (by rfl) c_law_take.m c_law_take.kp c_law_take.b .nil pass0 (pa_cons (pv 3) (pa_cons (pe_ix ix_list (pe_lst (pa_cons pe_int (pa_cons (pe_op op_pow pe_int pe_int) (pa_cons (pe_op op_mulX (pe_op op_pow pe_int pe_int) (pe_op op_pow pe_int pe_int)) pa_nil)))) (pe_call c_law_take.ok (hr.mono (by decide)) (by rfl) c_law_take.m c_law_take.kp c_law_take.b .nil pass0 (pa_cons (pv 3) (pa_cons pe_int pa_nil))) (fun _ _ => rfl)) pa_nil))))
      (pss_cons (ps_set (i := 6) sc.nd rfl (.inl rfl) (pe_op op_sub (pe_call c_law_take.ok (hr.mono (by decide)) (by rfl) c_law_take.m c_law_take.kp c_law_take.b .nil pass0 (pa_cons (pv 3) (pa_cons pe_int pa_nil))) pe_int))
      (pss_cons (ps_set (i := 7) sc.nd rfl (.inl rfl) (pe_lst (pa_cons (pe_tup (pa_cons (pe_op op_mulX (pv 5) (pv 5)) (pa_cons (pe_op op_mul pe_int (pv 6)) pa_nil))) (pa_cons (pe_tup (pa_cons (pe_op op_mulX (pv 5) (pv 5)) (pa_cons (pe_op op_add (pe_op op_mul pe_int (pv 6)) pe_int) pa_nil))) (pa_cons (pe_tup (pa_cons (pe_op op_add (pe_op op_mulX (pv 5) (pv 5)) pe_int) (pa_cons (pe_op op_mul pe_int (pv 6)) pa_nil))) (pa_cons (pe_tup (pa_cons (pe_op op_mulX (pe_op op_mulX pe_int (pv 5)) (pv 5)) (pa_cons (pe_op op_mul pe_int (pv 6)) pa_nil))) pa_nil))))))
      (pss_one (ps_for PassesOwn.never rfl (pi_list (pe_op op_cat (pv 7) (pe_lst (pa_cons (pe_tup (pa_cons (pe_op op_mulX (pe_op op_mulX (pv 5) (pv 5)) pe_int) (pa_cons (pe_op op_mul pe_int (pv 6)) pa_nil))) pa_nil)))) (pg_name (i := 8) sc.nd rfl (.inl rfl))
        (pss_one (ps_if (pt_not (pt_val (pe_call c_law_good.ok (hr.mono (by decide)) (by rfl) c_law_good.m c_law_good.kp c_law_good.b .nil pass0 (pa_cons pe_str (pa_cons (pe_call c_law_odd.ok (hr.mono (by decide)) (by rfl) c_law_odd.m c_law_odd.kp c_law_odd.b .nil pass0 (pa_cons (pe_ix ix_tup (pv 8) pe_int (fun _ _ => rfl)) (pa_cons (pe_ix ix_tup (pv 8) pe_int (fun _ _ => rfl)) pa_nil))) pa_nil)))))
          (pss_one (ps_ret pe_bl)) pss_nil))))))))))
    (pss_cons (ps_for PassesOwn.never rfl (pi_list (pe_lst (pa_cons (pe_tup (pa_cons pe_int (pa_cons pe_int pa_nil))) (pa_cons (pe_tup (pa_cons pe_int (pa_cons pe_int pa_nil))) (pa_cons (pe_tup (pa_cons pe_int (pa_cons pe_int pa_nil))) (pa_cons (pe_tup (pa_cons pe_int (pa_cons (pe_un un_neg pe_int) pa_nil))) (pa_cons (pe_tup (pa_cons pe_int (pa_cons pe_int pa_nil))) (pa_cons (pe_tup (pa_cons pe_int (pa_cons (pe_un un_neg pe_int) pa_nil))) (pa_cons (pe_tup (pa_cons pe_int (pa_cons pe_int pa_nil))) (pa_cons (pe_tup (pa_cons pe_int (pa_cons (pe_un un_neg pe_int) pa_nil))) (pa_cons (pe_tup (pa_cons pe_int (pa_cons (pe_un un_neg pe_int) pa_nil))) (pa_cons (pe_tup (pa_cons pe_int (pa_cons pe_int pa_nil))) pa_nil)))))))))))) (pg_name (i := 8) sc.nd rfl (.inl rfl))
      (pss_one (ps_for PassesOwn.never rfl (pi_list (pv 1)) (pg_name (i := 4) sc.nd rfl (.inl rfl))
        (pss_cons (ps_if (PW.pt (pw_or (PW.pt (pw_and (pt_cmpR op_eq (pv 4) pe_str (nomark _)) (pw_and1 (pt_cmpR (op_eqD hr.units) (pv 8) (pe_tup (pa_cons pe_int (pa_cons pe_int pa_nil))) (nomark _))))) (pw_or1 (PW.pt (pw_and (pt_cmpR op_eq (pv 4) pe_str (nomark _)) (pw_and1 (pt_cmpR (op_eqD hr.units) (pv 8) (pe_tup (pa_cons pe_int (pa_cons pe_int pa_nil))) (nomark _))))))))
          (pss_one ps_continue) pss_nil)
        (pss_one (ps_if (pt_not (pt_val (pe_call c_law_good.ok (hr.mono (by decide)) (by rfl) c_law_good.m c_law_good.kp c_law_good.b .nil pass0 (pa_cons (pv 4) (pa_cons (pv 8) pa_nil)))))
          (pss_one (ps_ret pe_bl)) pss_nil))))))
    (pss_one (ps_ret (pe_and (pe_call c_law_good.ok (hr.mono (by decide)) (by rfl) c_law_good.m c_law_good.kp c_law_good.b .nil pass0 (pa_cons pe_str (pa_cons (pe_tup (pa_cons (pe_un un_neg pe_int) (pa_cons pe_int pa_nil))) pa_nil))) (pe_and (pe_call c_law_good.ok (hr.mono (by decide)) (by rfl) c_law_good.m c_law_good.kp c_law_good.b .nil pass0 (pa_cons pe_str (pa_cons (pe_tup (pa_cons (pe_un un_neg pe_int) (pa_cons (pe_un un_neg pe_int) pa_nil))) pa_nil))) (pe_one (pe_call c_law_good.ok (hr.mono (by decide)) (by rfl) c_law_good.m c_law_good.kp c_law_good.b .nil pass0 (pa_cons pe_str (pa_cons (pe_tup (pa_cons (pe_un un_neg pe_int) (pa_cons (pe_un un_neg pe_int) pa_nil))) pa_nil))))))))))), ?_⟩
    refine ⟨by show 6 ≤ sizeLine; decide, fun L hL => ?_⟩
    have hL0 : FnL (upd H L (.lst (fns.map V.str))) L := upd_same
    have hS0 : SqL K (upd H L (.lst (fns.map V.str))) a (ns.map V.int) := ex_l (Ex.new hL) hS
    have eL : upd H L (.lst [.str "root", .str "exp", .str "log", .str "sin", .str "cos", .str "arc"]) = upd H L (.lst (fns.map V.str)) := rfl
    rw [eL]
    generalize upd H L (.lst (fns.map V.str)) = H0 at *
    refine ⟨6, rfl, by decide, by decide, for_range (lo := 0) (n := 6) (fun _ σ' H' => SqL K H' a (ns.map V.int) ∧ FnL H' L ∧ ∃ t1 t2 t3 t4 t5 t6 t7, σ' = [some (.ref a), some (.ref L), t1, t2, t3, t4, t5, t6, t7]) ⟨hS0, hL0, none, none, none, none, none, none, none, rfl⟩ (fun i σ' H1 hi hp => ?_) (fun σ' H1 hp => ?_)⟩
    · obtain ⟨hS1, hL1, t1, t2, t3, t4, t5, t6, t7, rfl⟩ := hp
      refine ⟨.ref a, rfl, .int (0 + (i : Int)), rfl, a, ns, _, rfl, hS1, by omega, by omega, fun z => ⟨by show 1 ≤ sizeLine; decide, fun p hp => ?_⟩⟩
      have x2 := Ex.new (o := .lst [.int z]) hp
      have l2 : Pl p (upd H1 p (.lst [.int z])) := pl_upd
      have Lp : L ≠ p := ne_of_none hL1 hp
      have hL2 : FnL (upd H1 p (.lst [.int z])) L := x2 _ _ hL1
      have fp : H1 p = none := hp
      generalize upd H1 p (.lst [.int z]) = H2 at *
      refine ⟨.ref L, rfl, L, rfl, ⟨_, sq_of hL2⟩, for_list (xs := fns.map V.str) (fun _ σ' H' => Keeps p H2 H' ∧ Pl p H' ∧ ∃ t, σ' = [some (.ref a), some (.ref L), some (.int (0 + (i : Int))), some (.ref p), t, t4, t5, t6, t7]) ⟨Keeps.refl p H2, l2, _, rfl⟩ (fun j σ' H' _ hk => sq_of (hk.1 _ _ hL2 Lp)) (fun j x σ' H3 hx hk => ?_) (fun σ' H3 hk => ?_)⟩
      · obtain ⟨k3, l3, t, rfl⟩ := hk
        obtain ⟨w, hw, rfl⟩ := str_mem hx
        refine g_name ?_
        exact ⟨.str w, rfl, .ref p, rfl, .str w, rfl, p, w, rfl, l3, fun v n H4 k4 l4 g4 po => ⟨w, v, n, rfl, hw, g4, po, fun H5 x5 => ⟨true, rfl, iteF ⟨(k3.trans k4).trans (keeps_ex x5), pl_ex l4 x5, _, rfl⟩⟩⟩⟩
      obtain ⟨k3, l3, t, rfl⟩ := hk
      dsimp only
      refine k_asg (P := fun _ v => ∃ z : Int, v = .int z ∧ 0 ≤ z ∧ z < 2 ^ 120) (evi_take (N := fun z => 0 < z ∧ z ≤ 2 ^ 120) rfl (evi_ix (W := fun z => 0 ≤ z ∧ z < 3) (evk_lst
        (evis_cons (S := fun z => 0 < z ∧ z ≤ 2 ^ 120) (evi_c ⟨by decide, by decide +kernel⟩)
        (evis_cons (S := fun z => 0 < z ∧ z ≤ 2 ^ 120) (evi_opC (S := fun z => z = 2) (T := fun z => z = 20) (evi_c rfl) (evi_c rfl) (fun a b ha hb => by subst ha hb; exact ⟨by decide, by decide, by decide⟩) (fun a b ha hb => by subst ha hb; decide +kernel))
        (evis_cons (S := fun z => 0 < z ∧ z ≤ 2 ^ 120) (evi_opC (S := fun z => z = 2 ^ 60) (T := fun z => z = 2 ^ 60) (evi_opC (S := fun z => z = 2) (T := fun z => z = 60) (evi_c rfl) (evi_c rfl) (fun a b ha hb => by subst ha hb; exact ⟨by decide, by decide, by decide⟩) (fun a b ha hb => by subst ha hb; decide +kernel)) (evi_opC (S := fun z => z = 2) (T := fun z => z = 60) (evi_c rfl) (evi_c rfl) (fun a b ha hb => by subst ha hb; exact ⟨by decide, by decide, by decide⟩) (fun a b ha hb => by subst ha hb; decide +kernel)) (fun a b ha hb => by subst ha hb; show CMulX _ _; unfold CMulX; decide +kernel) (fun a b ha hb => by subst ha hb; decide +kernel)) evis_nil))))
        (evi_take (N := fun z => z = 3) rfl (evi_c rfl) (fun n hn => by subst hn; exact ⟨by decide, by decide⟩) (fun n z hn a b => by subst hn; exact ⟨a, b⟩))
        (fun z hz => ⟨hz.1, by rcases (show z = 0 ∨ z = 1 ∨ z = 2 by omega) with rfl | rfl | rfl <;> exact ⟨_, rfl, fun z h => h⟩⟩)) (fun n hn => ⟨hn.1, log_small (k := 120) hn.1 hn.2 (by decide)⟩) (fun n z hn a b => ⟨a, by omega⟩)) l3 fun v4 H4 k4 l4 ⟨m, e4, m0, m1⟩ => ?_
      subst e4
      refine k_asg (P := fun _ v => ∃ z : Int, v = .int z ∧ z.natAbs ≤ 150) (evi_op (S := fun z => 0 ≤ z ∧ z < 300) (T := fun z => z = 150) (evi_take (N := fun z => z = 300) rfl (evi_c rfl) (fun n hn => by subst hn; exact ⟨by decide, by decide⟩) (fun n z hn a b => by subst hn; exact ⟨a, b⟩)) (evi_c rfl) (fun a b ha hb => by subst hb; show (a - 150).natAbs ≤ 150; omega)) l4 fun v5 H5 k5 l5 ⟨e, e5, he⟩ => ?_
      subst e5
      have k25 := (k3.trans k4).trans k5
      have mb : m.natAbs < 2 ^ 120 := by
        have : ((2 ^ 120 : Nat) : Int) = 2 ^ 120 := by decide +kernel
        omega
      have mm0 : 0 ≤ m * m := sq_nonneg m
      have mmb : (m * m).natAbs < 2 ^ 240 := by
        rw [Int.natAbs_mul, show (2 : Nat) ^ 240 = 2 ^ 120 * 2 ^ 120 from Nat.pow_add 2 120 120]
        exact Nat.mul_lt_mul'' mb mb
      have p250 : (2 : Nat) ^ 250 = 2 ^ 240 * 1024 := by decide +kernel
      have p240 : (4 : Nat) < 2 ^ 240 := by decide +kernel
      have vm : ∀ {σ' : L2.St} {H' : Hp}, σ'[5]? = some (some (.int m)) → Ev (tOp (rI CMulX fun i j => .int (i * j)) (tVar 5) (tVar 5)) σ' H' (.int (m * m)) := fun h => ev_op (ev_var h) (ev_var h) (rv_I (mulx_ok mb mb (by decide)))
      have ve : ∀ {σ' : L2.St} {H' : Hp}, σ'[6]? = some (some (.int e)) → Ev (tOp (rI CMul fun i j => .int (i * j)) (tC (.int 2)) (tVar 6)) σ' H' (.int (2 * e)) := fun h => ev_op ev_c (ev_var h) (rv_I (.inl ⟨by decide, by decide⟩))
      have m122 : (2 * m).natAbs < 2 ^ 122 := by
        have p122 : (2 : Nat) ^ 122 = 4 * 2 ^ 120 := by decide +kernel
        omega
      have q4 : 2 * m * m = 2 * (m * m) := Int.mul_assoc 2 m m
      refine q_asgLP (n := 4) (elp_lst sq2_mono
        (eva_cons sq2_mono (sq2_mk (vm rfl) (ve rfl) mm0 (by omega) (by omega))
        (eva_cons sq2_mono (sq2_mk (vm rfl) (ev_op (ve rfl) ev_c rv_I0) mm0 (by omega) (by omega))
        (eva_cons sq2_mono (sq2_mk (ev_op (vm rfl) ev_c rv_I0) (ve rfl) (by omega) (by omega) (by omega))
        (eva_cons sq2_mono (sq2_mk (a := 2 * m * m) (ev_op (ev_op ev_c (ev_var rfl) (rv_I (mulx_ok (a := 2) (b := 120) (by decide) mb (by decide)))) (ev_var rfl) (rv_I (mulx_ok (a := 122) (b := 120) m122 mb (by decide)))) (ve rfl) (by omega) (by omega) (by omega)) eva_nil))))) fun v6 H6 x6 hv6 => ?_
      refine (s_forLP (n := 4 + 1) sq2_mono (elp_cat (i := 7) sq2_mono rfl hv6 (elp_lst sq2_mono (eva_cons sq2_mono (sq2_mk (a := m * m * 9) (ev_op (vm rfl) ev_c (rv_I (mulx_ok mmb (b := 4) (by decide) (by decide)))) (ve rfl) (by omega) (by omega) (by omega)) eva_nil))) (fun σ' => ∃ t', σ' = [some (.ref a), some (.ref L), some (.int (0 + (i : Int))), some (.ref p), t, some (.int m), some (.int e), some v6, t']) ⟨_, rfl⟩ (fun H7 v σ' H8 x7 x8 hs hv => ?_) (fun σ' H8 x8 hs => ?_))
      · obtain ⟨t', rfl⟩ := hs
        obtain ⟨r, ra, rb, rfl, hr1, r0, r1, r2⟩ := hv
        refine g_name ?_
        refine ⟨.ref r, rfl, r, [.int ra, .int rb], 0, .int ra, rfl, rfl, st_of hr1, rfl, .ref r, rfl, r, [.int ra, .int rb], 1, .int rb, rfl, rfl, st_of hr1, rfl, ra, rb, rfl, fun H9 u x9 _ hu => ?_⟩
        exact ⟨"root", .ref u, nrm ra rb, rfl, by simp [fns], ⟨numAt_of hu, nrm_num ra rb, bd_nrm r1 (by omega)⟩, place_root r0, fun H10 x10 => ⟨true, rfl, iteF ⟨⟨_, rfl⟩, x8.trans (x9.trans x10)⟩⟩⟩
      · obtain ⟨t', rfl⟩ := hs
        have k28 := k25.trans (keeps_ex (x6.trans x8))
        have x18 : Ex H1 H8 := fun b o hb => k28 b o (x2 b o hb) (ne_of_none hb fp)
        exact ⟨ex_l x18 hS1, x18 _ _ hL1, _, _, _, _, _, _, _, rfl⟩
    · obtain ⟨hS1, hL1, t1, t2, t3, t4, t5, t6, t7, rfl⟩ := hp
      dsimp only
      have ng : ∀ {σ' : L2.St} {H' : Hp}, Ev (tUn (rU fun i => .int (-i)) (tC (.int 1))) σ' H' (.int (-1)) := ev_un ev_c ru_neg
      refine q_seqP (s_forLP (P := Fx K) (n := 10) fx_mono (elp_lst fx_mono
        (eva_cons fx_mono (fx_lit ev_c ev_c (by decide) ⟨by decide +kernel, by decide⟩ (by decide))
        (eva_cons fx_mono (fx_lit ev_c ev_c (by decide) ⟨by decide +kernel, by decide⟩ (by decide))
        (eva_cons fx_mono (fx_lit ev_c ev_c (by decide) ⟨by decide +kernel, by decide⟩ (by decide))
        (eva_cons fx_mono (fx_lit ev_c (ev_un ev_c ru_neg) (by decide) ⟨by decide +kernel, by decide⟩ (by decide))
        (eva_cons fx_mono (fx_lit ev_c ev_c (by decide) ⟨by decide +kernel, by decide⟩ (by decide))
        (eva_cons fx_mono (fx_lit ev_c (ev_un ev_c ru_neg) (by decide) ⟨by decide +kernel, by decide⟩ (by decide))
        (eva_cons fx_mono (fx_lit ev_c ev_c (by decide) ⟨by decide +kernel, by decide⟩ (by decide))
        (eva_cons fx_mono (fx_lit ev_c (ev_un ev_c ru_neg) (by decide) ⟨by decide +kernel, by decide⟩ (by decide))
        (eva_cons fx_mono (fx_lit ev_c (ev_un ev_c ru_neg) (by decide) ⟨by decide +kernel, by decide⟩ (by decide))
        (eva_cons fx_mono (fx_lit ev_c ev_c (by decide) ⟨by decide +kernel, by decide⟩ (by decide)) eva_nil))))))))))) (fun σ' => ∃ t t', σ' = [some (.ref a), some (.ref L), t1, t2, t, t4, t5, t6, t']) ⟨_, _, rfl⟩ (fun H2 v σ' H3 x2 x3 hs hv => ?_) (fun σ' H3 x3 hs => ?_))
      · obtain ⟨t, t', rfl⟩ := hs
        obtain ⟨n, hn, gn⟩ := hv
        refine g_name ?_
        have hL3 : FnL H3 L := (x2.trans x3) _ _ hL1
        refine ⟨.ref L, rfl, L, rfl, ⟨_, sq_of hL3⟩, for_list (xs := fns.map V.str) (fun _ σ' H' => Ex H3 H' ∧ ∃ t, σ' = [some (.ref a), some (.ref L), t1, t2, t, t4, t5, t6, some v]) ⟨Ex.refl H3, _, rfl⟩ (fun j σ' H' _ hk => sq_of (hk.1 _ _ hL3)) (fun j x σ' H4 hx hk => ?_) (fun σ' H4 hk => ?_)⟩
        · obtain ⟨x4, t, rfl⟩ := hk
          obtain ⟨w, hw, rfl⟩ := str_mem hx
          refine g_name ?_
          have gn4 := gn.ex x4
          refine q_when (et_or (et_and (et_test (ev_op (ev_var (i := 4) rfl) ev_c (rv_eq rfl))) (fun _ => et_test (evb_eq (evn_var (i := 8) rfl gn4) (evn_lit (B := 3000) (m := 1) (e := 799) ev_c ev_c (by decide) ⟨by decide +kernel, by decide⟩)))) (fun _ => et_and (et_test (ev_op (ev_var (i := 4) rfl) ev_c (rv_eq rfl))) (fun _ => et_test (evb_eq (evn_var (i := 8) rfl gn4) (evn_lit (B := 3000) (m := 0) (e := 0) ev_c ev_c (by decide) ⟨by decide +kernel, by decide⟩))))) (fun z H5 x5 => ⟨x4.trans x5, _, rfl⟩) (fun z H5 x5 => ?_)
          obtain ⟨z1, z2⟩ := Bool.or_eq_false_iff.mp z
          have h1 : ¬ (w = "exp" ∧ n = (1, 799)) := fun y => by
            rw [decide_eq_true (congrArg V.str y.1), decide_eq_true y.2] at z1
            cases z1
          have h2 : ¬ (w = "log" ∧ n = (0, 0)) := fun y => by
            rw [decide_eq_true (congrArg V.str y.1), decide_eq_true y.2] at z2
            cases z2
          exact ⟨.str w, rfl, v, rfl, w, v, n, rfl, hw, gn4.ex x5, fx_place hw hn h1 h2, fun H6 x6 => ⟨true, rfl, iteF ⟨(x4.trans x5).trans x6, _, rfl⟩⟩⟩
        · obtain ⟨x4, t, rfl⟩ := hk
          exact ⟨⟨_, _, rfl⟩, x3.trans x4⟩
      · obtain ⟨t, t', rfl⟩ := hs
        exact o_ret ((ev_andV (ev_good (w := "sin") (n := (-1, 0)) (evn_lit (ev_un ev_c ru_neg) ev_c (by decide) ⟨by decide +kernel, by decide⟩) (by decide +kernel) (pl_small (by decide +kernel) (by decide +kernel) (by decide +kernel) (.inr (by decide +kernel)))) (fun _ => ev_andV (ev_good (w := "exp") (n := (-3, -2)) (evn_lit (ev_un ev_c ru_neg) (ev_un ev_c ru_neg) (by decide) ⟨by decide +kernel, by decide⟩) (by decide +kernel) ⟨fun z => absurd z (by decide +kernel), fun z => absurd z (by decide +kernel), fun _ => ⟨by decide +kernel, by decide +kernel⟩, fun _ _ z => absurd rfl z⟩) (fun _ => ev_good (w := "cos") (n := (-1, -800)) (evn_lit (ev_un ev_c ru_neg) (ev_un ev_c ru_neg) (by decide) ⟨by decide +kernel, by decide⟩) (by decide +kernel) (pl_small (by decide +kernel) (by decide +kernel) (by decide +kernel) (.inr (by decide +kernel)))))) H3 (Ex.refl H3) _ fun H4 x4 => q H4)
end
/-! ### the head -/
abbrev dP (x : Str) (s : Stmt) (ds : List He.Dv) : He.DefD := ⟨(x, none), x, x, defArgs s, defBody s, defScope s, ds, []⟩
abbrev dM (c m x : Str) (s : Stmt) : He.DefD := ⟨(c, some m), m, x, defArgs s, defBody s, defScope s, [], []⟩
def fn : List He.DefD := [dP "floor_root" s_floor_root [], dP "is_number" s_is_number [], dP "need_number" s_need_number [], dP "need_numbers" s_need_numbers [], dP "multiplied" s_multiplied [], dP "times" s_times [], dP "compared" s_compared [], dP "size_of" s_size_of [], dP "need_word" s_need_word [], dP "is_between" s_is_between [], dP "is_place" s_is_place [], dP "need_place" s_need_place [], dP "exact_root" s_exact_root [], dP "exact_at" s_exact_at [], dP "exact_worth" s_exact_worth [], dP "is_exact" s_is_exact [], dP "_law_mixed" s_law_mixed [], dP "_law_cell" s_law_cell [], dP "_law_take" s_law_take [], dP "_law_floor_root" s_law_floor_root [], dP "_law_exact" s_law_exact [], dP "_law_odd" s_law_odd [], dP "_law_place" s_law_place [], dP "_law_good" s_law_good [], dP "law" s_law []]
def fa : List He.Fa := [.glo "floor_root", .glo "is_number", .glo "need_number", .glo "need_numbers", .glo "multiplied", .glo "times", .glo "compared", .glo "size_of", .glo "need_word", .glo "is_between", .glo "is_place", .glo "need_place", .glo "exact_root", .glo "exact_at", .glo "exact_worth", .glo "is_exact", .glo "_law_mixed", .glo "_law_cell", .glo "_law_take", .glo "_law_floor_root", .glo "_law_exact", .glo "_law_odd", .glo "_law_place", .glo "_law_good", .glo "law", .free "isinstance", .free "len", .free "range", .free "int", .free "bool", .free "tuple", .free "str", .free "min", .free "max", .free "abs", .free "all", .glo "FUNCTIONS", .int "MOST_SIZE" 800]
def ex (K : PySem.W.Frag) : Bool := (He.tupB K "FUNCTIONS" [.str "root", .str "exp", .str "log", .str "sin", .str "cos", .str "arc"] && true)
abbrev R : PySem.W.OpenRow := PySem.W.OpenLaw.row PySem.Challenge.rw_oncenear_k24_exact_worths
abbrev hk : PySem.W.Hook := He.hookX 5 fa fn [] [] ex
def ob (s : PySem.W.SharedT) : He.AlX := He.obsX 5 fa fn [] [] ex (HandSHeadRun.getT s)
theorem ob_eq (s : PySem.W.SharedT) : ob s = hk.obs s.abs := He.obsX_eq (HandSHeadRun.getT_eq s)
set_option maxHeartbeats 0 in
theorem run (w : World) : HandSHeadRun.RunEq R (PySem.W.view R.prog [37]) hk ob 4000 ((["NoNumber", "NoPlace", "NoWord", "floor_root", "is_number", "need_number", "need_numbers", "times", "multiplied", "compared", "size_of", "need_word", "is_place", "is_between", "need_place", "is_exact", "exact_worth", "exact_at", "exact_root", "_law_mixed"] : List PySem.Str) ++ (["_law_cell", "_law_take", "_law_floor_root", "_law_exact", "_law_odd", "_law_place", "_law_good", "NUMBER_NEEDED", "FUNCTIONS", "MOST_SIZE"] : List PySem.Str)) w := by
  intro os
  kernel_rfl
theorem facts {P : Program} {w : World} {K : PySem.W.Frag} {h : Heap} {mg : Str → Option Value} {f : Addr} (X : K.In h) (G : h.Ns mainGlobals mg) (hfa : mg ("law" : Str) = some (.ref f)) (c : He.SaysX fa fn [] [] ex w h K) :
    ∃ fd : FuncData, (∀ (s : Shared) (v : Value), BindsTo s fd ⟨[v], []⟩ [("_law_script", v)]) ∧ ∀ base : Heap, K.In base → base.Ns mainGlobals mg → FnOk P w K mg base CX0 8 f fd ["_law_script"] (spLaw K) := by
  have cd := c.t.d
  have cm := c.more
  have T : Top mg := ⟨He.free_ok X G (cd.fact 25 (f := .free "isinstance") rfl), He.free_ok X G (cd.fact 26 (f := .free "len") rfl), He.free_ok X G (cd.fact 27 (f := .free "range") rfl), He.free_ok X G (cd.fact 28 (f := .free "int") rfl), He.free_ok X G (cd.fact 29 (f := .free "bool") rfl), He.free_ok X G (cd.fact 30 (f := .free "tuple") rfl), He.free_ok X G (cd.fact 31 (f := .free "str") rfl), He.free_ok X G (cd.fact 32 (f := .free "min") rfl), He.free_ok X G (cd.fact 33 (f := .free "max") rfl), He.free_ok X G (cd.fact 34 (f := .free "abs") rfl), He.free_ok X G (cd.fact 35 (f := .free "all") rfl)⟩
  unfold ex at cm
  obtain ⟨m0, cm⟩ := He.ba cm
  obtain ⟨fd0, F0⟩ := cd.def_ 0 (d := dP "floor_root" s_floor_root []) rfl
  obtain ⟨fd1, F1⟩ := cd.def_ 1 (d := dP "is_number" s_is_number []) rfl
  obtain ⟨fd2, F2⟩ := cd.def_ 2 (d := dP "need_number" s_need_number []) rfl
  obtain ⟨fd3, F3⟩ := cd.def_ 3 (d := dP "need_numbers" s_need_numbers []) rfl
  obtain ⟨fd4, F4⟩ := cd.def_ 4 (d := dP "multiplied" s_multiplied []) rfl
  obtain ⟨fd5, F5⟩ := cd.def_ 5 (d := dP "times" s_times []) rfl
  obtain ⟨fd6, F6⟩ := cd.def_ 6 (d := dP "compared" s_compared []) rfl
  obtain ⟨fd7, F7⟩ := cd.def_ 7 (d := dP "size_of" s_size_of []) rfl
  obtain ⟨fd8, F8⟩ := cd.def_ 8 (d := dP "need_word" s_need_word []) rfl
  obtain ⟨fd9, F9⟩ := cd.def_ 9 (d := dP "is_between" s_is_between []) rfl
  obtain ⟨fd10, F10⟩ := cd.def_ 10 (d := dP "is_place" s_is_place []) rfl
  obtain ⟨fd11, F11⟩ := cd.def_ 11 (d := dP "need_place" s_need_place []) rfl
  obtain ⟨fd12, F12⟩ := cd.def_ 12 (d := dP "exact_root" s_exact_root []) rfl
  obtain ⟨fd13, F13⟩ := cd.def_ 13 (d := dP "exact_at" s_exact_at []) rfl
  obtain ⟨fd14, F14⟩ := cd.def_ 14 (d := dP "exact_worth" s_exact_worth []) rfl
  obtain ⟨fd15, F15⟩ := cd.def_ 15 (d := dP "is_exact" s_is_exact []) rfl
  obtain ⟨fd16, F16⟩ := cd.def_ 16 (d := dP "_law_mixed" s_law_mixed []) rfl
  obtain ⟨fd17, F17⟩ := cd.def_ 17 (d := dP "_law_cell" s_law_cell []) rfl
  obtain ⟨fd18, F18⟩ := cd.def_ 18 (d := dP "_law_take" s_law_take []) rfl
  obtain ⟨fd19, F19⟩ := cd.def_ 19 (d := dP "_law_floor_root" s_law_floor_root []) rfl
  obtain ⟨fd20, F20⟩ := cd.def_ 20 (d := dP "_law_exact" s_law_exact []) rfl
  obtain ⟨fd21, F21⟩ := cd.def_ 21 (d := dP "_law_odd" s_law_odd []) rfl
  obtain ⟨fd22, F22⟩ := cd.def_ 22 (d := dP "_law_place" s_law_place []) rfl
  obtain ⟨fd23, F23⟩ := cd.def_ 23 (d := dP "_law_good" s_law_good []) rfl
  obtain ⟨fd24, F24⟩ := cd.def_ 24 (d := dP "law" s_law []) rfl
  have e := hfa.symm.trans (He.glo_ok X G (cd.fact 24 (f := .glo "law") rfl))
  cases e
  have b := FunD.bindsA (ps := ["_law_script"]) F24 fun _ _ _ _ _ _ us hl => match us, hl with | [_], _ => rfl
  obtain ⟨tS, m_MOST_SIZE⟩ := He.int_ok X G (cd.fact 37 (f := .int "MOST_SIZE" 800) rfl)
  have WD : Wd mg K (He.ga K "FUNCTIONS") := ⟨He.glo_ok X G (cd.fact 36 (f := .glo "FUNCTIONS") rfl), fun H => He.tupB_ok m0 H⟩
  have kb1 := kb_plain (ps := ["word", "number"]) F14 ["number", "word"] (fun zs => zs.reverse) (fun r => r.reverse) (fun _ _ _ _ _ _ ws hl => match ws, hl with | [_, _], _ => rfl)
  have kb2 := kb_plain (ps := ["word", "number"]) F15 ["number", "word"] (fun zs => zs.reverse) (fun r => r.reverse) (fun _ _ _ _ _ _ ws hl => match ws, hl with | [_, _], _ => rfl)
  refine ⟨fd24, fun s v => b s [v] rfl, fun base _ _ => ?_⟩
  have c0 : Cal P w K mg base CX0 1 "floor_root" ["whole"] spFRoot _ fd0 := ⟨ok_floor_root T F0, He.glo_ok X G (cd.fact 0 (f := .glo "floor_root") rfl), F0.kp, F0.bindsN fun _ _ _ _ _ _ us hl => match us, hl with | [_], _ => rfl⟩
  have c1 : Cal P w K mg base CX0 1 "is_number" ["thing"] (spNum K) _ fd1 := ⟨ok_is_number T F1, He.glo_ok X G (cd.fact 1 (f := .glo "is_number") rfl), F1.kp, F1.bindsN fun _ _ _ _ _ _ us hl => match us, hl with | [_], _ => rfl⟩
  have c2 : Cal P w K mg base CX0 2 "need_number" ["thing"] (spNeed K) _ fd2 := ⟨ok_need_number T F2 c1, He.glo_ok X G (cd.fact 2 (f := .glo "need_number") rfl), F2.kp, F2.bindsN fun _ _ _ _ _ _ us hl => match us, hl with | [_], _ => rfl⟩
  have c3 : Cal P w K mg base CX0 2 "need_numbers" ["one", "other"] (spNeed2 K) _ fd3 := ⟨ok_need_numbers T F3 c1, He.glo_ok X G (cd.fact 3 (f := .glo "need_numbers") rfl), F3.kp, F3.bindsN fun _ _ _ _ _ _ us hl => match us, hl with | [_, _], _ => rfl⟩
  have c4 : Cal P w K mg base CX0 1 "multiplied" ["one", "other"] (spTwo K pmul) _ fd4 := ⟨ok_multiplied T F4, He.glo_ok X G (cd.fact 4 (f := .glo "multiplied") rfl), F4.kp, F4.bindsN fun _ _ _ _ _ _ us hl => match us, hl with | [_, _], _ => rfl⟩
  have c5 : Cal P w K mg base CX0 3 "times" ["one", "other"] (spTwo K pmul) _ fd5 := ⟨ok_times T F5 c3 c4, He.glo_ok X G (cd.fact 5 (f := .glo "times") rfl), F5.kp, F5.bindsN fun _ _ _ _ _ _ us hl => match us, hl with | [_, _], _ => rfl⟩
  have c6 : Cal P w K mg base CX0 1 "compared" ["one", "other"] (spOrd K) _ fd6 := ⟨ok_compared T F6, He.glo_ok X G (cd.fact 6 (f := .glo "compared") rfl), F6.kp, F6.bindsN fun _ _ _ _ _ _ us hl => match us, hl with | [_, _], _ => rfl⟩
  have c7 : Cal P w K mg base CX0 1 "size_of" ["number"] (spSize K) _ fd7 := ⟨ok_size_of T F7, He.glo_ok X G (cd.fact 7 (f := .glo "size_of") rfl), F7.kp, F7.bindsN fun _ _ _ _ _ _ us hl => match us, hl with | [_], _ => rfl⟩
  have c8 : Cal P w K mg base CX0 1 "need_word" ["thing", "words"] (spNeedWd K (He.ga K "FUNCTIONS")) _ fd8 := ⟨ok_need_word T F8, He.glo_ok X G (cd.fact 8 (f := .glo "need_word") rfl), F8.kp, F8.bindsN fun _ _ _ _ _ _ us hl => match us, hl with | [_, _], _ => rfl⟩
  have c9 : Cal P w K mg base CX0 2 "is_between" ["number", "least", "most"] (spBetw K) _ fd9 := ⟨ok_is_between T F9 c6, He.glo_ok X G (cd.fact 9 (f := .glo "is_between") rfl), F9.kp, F9.bindsN fun _ _ _ _ _ _ us hl => match us, hl with | [_, _, _], _ => rfl⟩
  have c10 : Cal P w K mg base CX0 3 "is_place" ["word", "number"] (spIsPl K) _ fd10 := ⟨ok_is_place T m_MOST_SIZE F10 c9 c7, He.glo_ok X G (cd.fact 10 (f := .glo "is_place") rfl), F10.kp, F10.bindsN fun _ _ _ _ _ _ us hl => match us, hl with | [_, _], _ => rfl⟩
  have c11 : Cal P w K mg base CX0 4 "need_place" ["word", "number"] (spNeedPl K) _ fd11 := ⟨ok_need_place T F11 c10, He.glo_ok X G (cd.fact 11 (f := .glo "need_place") rfl), F11.kp, F11.bindsN fun _ _ _ _ _ _ us hl => match us, hl with | [_, _], _ => rfl⟩
  have c12 : Cal P w K mg base CX0 2 "exact_root" ["number"] (spExR K) _ fd12 := ⟨ok_exact_root T F12 c0, He.glo_ok X G (cd.fact 12 (f := .glo "exact_root") rfl), F12.kp, F12.bindsN fun _ _ _ _ _ _ us hl => match us, hl with | [_], _ => rfl⟩
  have c13 : Cal P w K mg base CX0 3 "exact_at" ["word", "number"] (spExA K) _ fd13 := ⟨ok_exact_at T F13 c12, He.glo_ok X G (cd.fact 13 (f := .glo "exact_at") rfl), F13.kp, F13.bindsN fun _ _ _ _ _ _ us hl => match us, hl with | [_, _], _ => rfl⟩
  have c14 : Cal P w K mg base CX0 5 "exact_worth" ["word", "number"] (spExW K) _ fd14 := ⟨ok_exact_worth T WD F14 c8 c2 c11 c13, He.glo_ok X G (cd.fact 14 (f := .glo "exact_worth") rfl), F14.kp, F14.bindsN fun _ _ _ _ _ _ us hl => match us, hl with | [_, _], _ => rfl⟩
  have c15 : Cal P w K mg base CX0 6 "is_exact" ["word", "number"] (spIsEx K) _ fd15 := ⟨ok_is_exact T F15 c14, He.glo_ok X G (cd.fact 15 (f := .glo "is_exact") rfl), F15.kp, F15.bindsN fun _ _ _ _ _ _ us hl => match us, hl with | [_, _], _ => rfl⟩
  have c16 : Cal P w K mg base CX0 1 "_law_mixed" ["_law_cell_here", "_law_k"] spMix _ fd16 := ⟨ok_law_mixed T F16, He.glo_ok X G (cd.fact 16 (f := .glo "_law_mixed") rfl), F16.kp, F16.bindsN fun _ _ _ _ _ _ us hl => match us, hl with | [_, _], _ => rfl⟩
  have c17 : Cal P w K mg base CX0 2 "_law_cell" ["_law_script", "_law_k"] (spCel K) _ fd17 := ⟨ok_law_cell T F17 c16, He.glo_ok X G (cd.fact 17 (f := .glo "_law_cell") rfl), F17.kp, F17.bindsN fun _ _ _ _ _ _ us hl => match us, hl with | [_, _], _ => rfl⟩
  have c18 : Cal P w K mg base CX0 1 "_law_take" ["_law_pile", "_law_size"] spTake _ fd18 := ⟨ok_law_take T F18, He.glo_ok X G (cd.fact 18 (f := .glo "_law_take") rfl), F18.kp, F18.bindsN fun _ _ _ _ _ _ us hl => match us, hl with | [_, _], _ => rfl⟩
  have c19 : Cal P w K mg base CX0 1 "_law_floor_root" ["_law_whole"] spFRoot _ fd19 := ⟨ok_law_floor_root T F19, He.glo_ok X G (cd.fact 19 (f := .glo "_law_floor_root") rfl), F19.kp, F19.bindsN fun _ _ _ _ _ _ us hl => match us, hl with | [_], _ => rfl⟩
  have c20 : Cal P w K mg base CX0 2 "_law_exact" ["_law_word_told", "_law_number_told"] (spExA K) _ fd20 := ⟨ok_law_exact T F20 c19, He.glo_ok X G (cd.fact 20 (f := .glo "_law_exact") rfl), F20.kp, F20.bindsN fun _ _ _ _ _ _ us hl => match us, hl with | [_, _], _ => rfl⟩
  have c21 : Cal P w K mg base CX0 1 "_law_odd" ["_law_m", "_law_e"] spNof _ fd21 := ⟨ok_law_odd T F21, He.glo_ok X G (cd.fact 21 (f := .glo "_law_odd") rfl), F21.kp, F21.bindsN fun _ _ _ _ _ _ us hl => match us, hl with | [_, _], _ => rfl⟩
  have c22 : Cal P w K mg base CX0 2 "_law_place" ["_law_pile", "_law_word_told"] (spPlace K) _ fd22 := ⟨ok_law_place T F22 c18 c21, He.glo_ok X G (cd.fact 22 (f := .glo "_law_place") rfl), F22.kp, F22.bindsN fun _ _ _ _ _ _ us hl => match us, hl with | [_, _], _ => rfl⟩
  have c23 : Cal P w K mg base CX0 7 "_law_good" ["_law_word_own", "_law_number_own"] (spGood K) _ fd23 := ⟨ok_law_good T F23 c20 c14 c5 c15 kb1 kb2, He.glo_ok X G (cd.fact 23 (f := .glo "_law_good") rfl), F23.kp, F23.bindsN fun _ _ _ _ _ _ us hl => match us, hl with | [_, _], _ => rfl⟩
  exact ok_law T F24 c17 c22 c23 c18 c21
end Onc
open PySem PySem.W PySem.Calls PyProof.Rows
set_option maxRecDepth 100000 in
set_option maxHeartbeats 0 in
theorem PySem.Challenge.cw_oncenear_k24_exact_worths_holds : PySem.Challenge.rw_oncenear_k24_exact_worths.Holds := by
  w_on; o_law
  refine HandSHeadRun.head_any (r := OpenLaw.row PySem.Challenge.rw_oncenear_k24_exact_worths) (q := view (OpenLaw.row PySem.Challenge.rw_oncenear_k24_exact_worths).prog [37]) (H := Onc.hk) (ob := Onc.ob) (M := 4000) (loose := ((["NoNumber", "NoPlace", "NoWord", "floor_root", "is_number", "need_number", "need_numbers", "times", "multiplied", "compared", "size_of", "need_word", "is_place", "is_between", "need_place", "is_exact", "exact_worth", "exact_at", "exact_root", "_law_mixed"] : List PySem.Str) ++ (["_law_cell", "_law_take", "_law_floor_root", "_law_exact", "_law_odd", "_law_place", "_law_good", "NUMBER_NEEDED", "FUNCTIONS", "MOST_SIZE"] : List PySem.Str))) (d := HandSHeadRun.topDef (OpenLaw.row PySem.Challenge.rw_oncenear_k24_exact_worths).prog 37) (kwd := []) Onc.ob_eq
    (by kernel_rfl) (fun s => by kernel_rfl) Onc.run (by kernel_rfl) (by kernel_rfl) (by kernel_rfl) (by rfl) (by first | assumption | decide +kernel) (by decide +kernel) ⟨rfl, rfl, rfl, rfl, rfl, by decide +kernel⟩ ?hw ?hc
  case hw => w_witness2
  case hc =>
    refine L2.walk_ofE (l := PySem.Challenge.rw_oncenear_k24_exact_worths) (n := 63) (k := 8) (x := "_law_script") (CX := L2.CX0) rfl (by decide) (by kernel_rfl) ⟨rfl, by decide, by decide⟩ ?F (fun _ _ _ _ z => z)
    intro w mg fa h Y G hmg0
    obtain ⟨K, KX, c⟩ := Y
    have hmg : mg ("law" : PySem.Str) = some (.ref fa) := by
      have e : (HandSHeadRun.topDef (OpenLaw.row PySem.Challenge.rw_oncenear_k24_exact_worths).prog 37).name = ("law" : PySem.Str) := by kernel_rfl
      rw [← e]
      exact hmg0
    obtain ⟨fd, hb, hF⟩ := Onc.facts (P := (PySem.Challenge.rw_oncenear_k24_exact_worths).prog) (w := w) KX G hmg c
    exact ⟨K, fd, Onc.spLaw K, KX, hb, fun H a ns hl _ hS => ⟨a, ns, rfl, hS, fun _ => rfl⟩, hF⟩
