import PyProof.Rows.All
import Wide.All
import OpenK.AllK
import Wide.FinOn
import KE.KStateDown
import KE.KBits
import Lean
import HandS.ForMost
import HandS.More
import HandS.Exc
import HandS.WordsExc
import HandS.Defaults
import HandS.IsInst
import HandS.Wide
import HandS.WideBits
import HandS.Evl
import HandS.Head0
import HandS.Head1
import HandS.Head2
import HandS.HeadEnd
import HandS.HeadHook1
import HandS.HeadHook2
import KE.DataCmp
import HandS.NoneIn
import HandS.HeadHook3
import HandS.HeadHook4
import HandS.Iter
import HandS.More
import HandS.Conv
import KE.KDictList
import PyProof.Rows.BitMore
import KE.KBits
import HandS.Flow
import HandS.Style
import PySem.Challenge.RW_oncenear_k28_sums_of_series
set_option Elab.async false
set_option linter.all false
set_option maxRecDepth 100000
set_option maxHeartbeats 2000000
namespace Onc
open PySem PySem.Spec PyProof.Rows L2 Evl
/-! ### defs and calls -/
section
variable {P : Program} {w : World} {K : PySem.W.Frag} {mg : Str → Option Value} {base : Heap} {x qual : Str} {params : Arguments} {body : List Stmt} {scope : Scope} {dvs : List V} {kws : List (Str × V)} {f : Addr} {fd : FuncData}
theorem ok0 {N ps : List Str} {k : Nat} {sp : Sp} (F : FunD K x qual params body scope dvs kws f fd) (S : FnScope N ps scope) (len : ∀ vs H Q E, sp vs H Q E → vs.length = ps.length)
    (hbody : ∀ (cdv : Value) (A : Around) (outer : List Env) (s : Shared) (H : Hp) (vs : List V) (Q : VK) (E : XK), Room k (A.deeper (envOfC qual scope s.heap.objs.size f cdv)) → sp vs H Q E →
      ∃ t, PSs (cxOf CX0 P w K mg base N qual scope f cdv A outer s H E).nox body t ∧ t { nx := fun _ H' => Q .non H', rt := Q } (start N vs) H) : FnOk P w K mg base CX0 (k + 1) f fd ps sp :=
  F.ok S len fun cdv A outer s H vs Q E hr h => by
    obtain ⟨t, h1, h2⟩ := hbody cdv A outer s H vs Q E hr h
    exact ⟨t, h1.nox, h2⟩
end
structure Cal (P : Program) (w : World) (K : PySem.W.Frag) (mg : Str → Option Value) (base : Heap) (CX : CXT) (k : Nat) (x : Str) (ps : List Str) (sp : Sp) (f : Addr) (fd : FuncData) : Prop where
  ok : FnOk P w K mg base CX k f fd ps sp
  m : mg x = some (.ref f)
  kp : PySem.W.keepIn K (.ref f) = true
  b : Binds K fd ps []
section
variable {X : Cx} {CX : CXT} {k n : Nat} {f : Addr} {fd : FuncData} {ps ks : List Str} {sp : Sp} {E : XK} {x : Str} {p pos : Pos} {kws : List Keyword} {tk : TA} {g : List Value → List Value → List Value} {gV : List V → List V → List V}
/-- f(k = v, ..), no positional ones -/
theorem pe_callN0 (F : FnOk X.prog X.w X.K X.mg X.base CX k f fd ps sp) (hr : Room k X.A) (hg : Gl X x) (hm : X.mg x = some (.ref f)) (hk : PySem.W.keepIn X.K (.ref f) = true) (hb : KBn X.K fd ps 0 ks g gV) (hx : Passes CX X E)
    (hkw : PK X kws tk) (hall : (backToKw pos (keywordEach kws X.env)).all (·.1.isSome) = true := by rfl) (hks : (backToKw pos (keywordEach kws X.env)).filterMap (·.1) = ks := by rfl)
    (hdb : (x == ("__debug__" : Str)) = false := by decide)
    (hpl : ((backTo pos (starEach [] X.env)).any (·.1) || (backToKw pos (keywordEach kws X.env)).any (·.1.isNone)) = false := by rfl) :
    PE X (.Call (.Name x p) [] kws pos) (tCallN 0 ks.length sp gV E tNil tk) := by
  refine ⟨fun pins s σ H Q I h => ?_⟩
  refine wpAny_Call_Name_kw (ld_glob I hg hm ?_ hdb)
  refine PySem.W.callWith_KW0 (h₀ := X.base) I.ok.mod.kin hk hall ?_ hpl
  refine thn (hkw.run pos pins s σ H _ I h) fun ws s2 ⟨zs, H2, I2, rz, l1, l2, q2⟩ => ⟨I2.kIn, ?_⟩
  rw [hks]
  exact run_fnN (us := []) (vs := []) F hr hb hx I2 .nil rz l1 l2 q2
end
section
variable {K : PySem.W.Frag} {x qual : Str} {params : Arguments} {body : List Stmt} {scope : Scope} {dvs : List V} {kws : List (Str × V)} {f : Addr} {fd : FuncData} {ps : List Str}
/-- keywords alone, a def without defaults -/
theorem kb_plain (F : FunD K x qual params body scope [] kws f fd) (ks : List Str) (g : {α : Type} → List α → List α)
    (hrel : ∀ {zs : List V} {ws : List Value}, Vals zs ws → Vals (g zs) (g ws))
    (h : ∀ (kV doc pm : Value) (an : Option Addr) (cdv ct : Value) (ws : List Value), ws.length = ks.length → bindArgs (PySem.W.fnOf x qual params body scope .none kV doc pm an cdv ct) ⟨[], ks.zip ws⟩ = pure (ps.zip (g ws))) : KBn K fd ps 0 ks (fun _ ws => g ws) (fun _ zs => g zs) := by
  obtain ⟨oc, od, dV, kV, doc, pm, an, cdv, ct, osl, rfl, lk, hcd, hD, hK⟩ := F.ex
  rcases hD with ⟨_, rfl⟩ | ⟨e, _⟩
  · refine ⟨fun s us ws X l1 l2 => ?_, fun _ r2 => hrel r2⟩
    have e0 : us = [] := List.length_eq_zero_iff.mp l1
    subst e0
    exact .of_eq (h kV doc pm an cdv ct ws l2)
  · exact absurd rfl e
/-- keywords alone, a def with defaults -/
theorem kb_dfl (F : FunD K x qual params body scope dvs kws f fd) (hd : dvs ≠ []) (ks : List Str) (g : {α : Type} → List α → List α → List α)
    (hrel : ∀ {ds zs : List V} {its ws : List Value}, Vals ds its → Vals zs ws → Vals (g ds zs) (g its ws))
    (h : ∀ (T : Addr) (kV doc pm : Value) (an : Option Addr) (cdv ct : Value) (its ws : List Value), its.length = dvs.length → ws.length = ks.length →
      ∃ k, bindArgs (PySem.W.fnOf x qual params body scope (.ref T) kV doc pm an cdv ct) ⟨[], ks.zip ws⟩ = seqItems? (.ref T) >>= k ∧ k (some its.toArray) = pure (ps.zip (g its ws))) :
    ∃ its : List Value, KBn K fd ps 0 ks (fun _ ws => g its ws) (fun _ zs => g dvs zs) := by
  obtain ⟨oc, od, dV, kV, doc, pm, an, cdv, ct, osl, rfl, lk, hcd, hD, hK⟩ := F.ex
  rcases hD with ⟨e, _⟩ | ⟨_, T, o, its, m, rfl, lT, oT, rT⟩
  · exact absurd e hd
  · refine ⟨its, fun s us ws X l1 l2 => ?_, fun _ r2 => hrel rT r2⟩
    have e0 : us = [] := List.length_eq_zero_iff.mp l1
    subst e0
    obtain ⟨k, e1, e2⟩ := h T kV doc pm an cdv ct its ws rT.length.symm l2
    refine BindsTo.of_looks fun M => ?_
    rw [e1]
    exact looks_items X lT oT (.of_pure e2)
end
/-! ### kinds -/
section
variable {K : PySem.W.Frag} {H H' : Hp}
theorem tyX_ex {v : V} {t : Value} (e : Ex H H') (h : TyX K H v t) : TyX K H' v t := by
  cases h with
  | base b =>
    cases b with
    | non => exact .base .non
    | bl x => exact .base (.bl x)
    | int x => exact .base (.int x)
    | str x => exact .base (.str x)
    | flt x => exact .base (.flt x)
    | lst q => exact .base (.lst (e _ _ q))
    | frz q => exact .base (.frz (e _ _ q))
    | tup q => exact .base (.tup (e _ _ q))
    | dK q => exact .base (.dK (e _ _ q))
    | dT q => exact .base (.dT (e _ _ q))
    | ins q a b c d f => exact .base (.ins (e _ _ q) a b c d f)
  | byt b => exact .byt b
  | set q => exact .set (e _ _ q)
  | kList q c => exact .kList q c
  | kTuple q c => exact .kTuple q c
  | kDict q c => exact .kDict q c
  | fTuple q => exact .fTuple (e _ _ q)
  | fDict q => exact .fDict (e _ _ q)
theorem sqT_ty {a : Addr} {xs : List V} (h : SqT K H a xs) : TyX K H (.ref a) (.type "tuple") := by
  rcases h with (h | ⟨o, h⟩) | ⟨o, its, n, h1, h2, _⟩
  · exact .base (.tup h)
  · exact .fTuple h
  · exact .kTuple h1 h2
theorem sqL_ty {a : Addr} {xs : List V} (h : SqL K H a xs) : TyX K H (.ref a) (.type "list") := by
  rcases h with (h | ⟨o, h⟩) | ⟨o, its, n, h1, h2, _⟩
  · exact .base (.lst h)
  · exact .base (.frz h)
  · exact .kList h1 h2
/-- whether v is a whole number, by its kind -/
inductive WholeIs (K : PySem.W.Frag) (H : Hp) : V → Bool → Prop
  | int (i : Int) : WholeIs K H (.int i) true
  | bl (x : Bool) : WholeIs K H (.bl x) false
  | no {v : V} {t : Value} {b2 : Bool} (h : TyX K H v t) (k1 : PySem.W.kitOne K t (.type "int") = some false) (k2 : PySem.W.kitOne K t (.type "bool") = some b2) : WholeIs K H v false
theorem ty_int (i : Int) : TyX K H (.int i) (.type "int") := .base (.int i)
theorem ty_bl (x : Bool) : TyX K H (.bl x) (.type "bool") := .base (.bl x)
theorem kit_ii : PySem.W.kitOne K (.type "int") (.type "int") = some true := kit_ty (by decide +kernel : kitB "int" "int" = some true)
theorem kit_ib : PySem.W.kitOne K (.type "int") (.type "bool") = some false := kit_ty (by decide +kernel : kitB "int" "bool" = some false)
theorem kit_bi : PySem.W.kitOne K (.type "bool") (.type "int") = some true := kit_ty (by decide +kernel : kitB "bool" "int" = some true)
theorem kit_bb : PySem.W.kitOne K (.type "bool") (.type "bool") = some true := kit_ty (by decide +kernel : kitB "bool" "bool" = some true)
theorem WholeIs.kinds {v : V} {b : Bool} (h : WholeIs K H v b) : ∃ t b1 b2, TyX K H v t ∧ PySem.W.kitOne K t (.type "int") = some b1 ∧ PySem.W.kitOne K t (.type "bool") = some b2 ∧ b = (b1 && !b2) := by
  cases h with
  | int i => exact ⟨_, _, _, ty_int i, kit_ii, kit_ib, rfl⟩
  | bl x => exact ⟨_, _, _, ty_bl x, kit_bi, kit_bb, rfl⟩
  | no h k1 k2 => exact ⟨_, _, _, h, k1, k2, rfl⟩
def isNumB (m e : Int) : Bool := decide (m % 2 = 1) || (decide (m = 0) && decide (e = 0))
inductive NumIs (K : PySem.W.Frag) (H : Hp) : V → Bool → Prop
  | no {v : V} {t : Value} (h : TyX K H v t) (k : PySem.W.kitOne K t (.type "tuple") = some false) : NumIs K H v false
  | len {a : Addr} {xs : List V} (h : SqT K H a xs) (l : xs.length ≠ 2) : NumIs K H (.ref a) false
  | fst {a : Addr} {x y : V} {b : Bool} (h : SqT K H a [x, y]) (p : WholeIs K H x false) (q : WholeIs K H y b) : NumIs K H (.ref a) false
  | snd {a : Addr} {x y : V} (h : SqT K H a [x, y]) (p : WholeIs K H x true) (q : WholeIs K H y false) : NumIs K H (.ref a) false
  | num {a : Addr} {m e : Int} (h : SqT K H a [.int m, .int e]) : NumIs K H (.ref a) (isNumB m e)
theorem whole_ex {v : V} {b : Bool} (e : Ex H H') (h : WholeIs K H v b) : WholeIs K H' v b := by
  cases h with
  | int i => exact .int i
  | bl x => exact .bl x
  | no h k1 k2 => exact .no (tyX_ex e h) k1 k2
theorem whole_int (i : Int) : WholeIs K H (.int i) true := .int i
def isWholeD : PyData → Bool
  | .int _ => true
  | _ => false
theorem whole_dp {v : V} {d : PyData} (h : Dp K H v d) : WholeIs K H v (isWholeD d) := by
  cases h with
  | non => exact .no (.base .non) (kit_ty (by decide +kernel : kitB "NoneType" "int" = some false)) (kit_ty (by decide +kernel : kitB "NoneType" "bool" = some false))
  | bl b => exact .bl b
  | int i => exact .int i
  | str x => exact .no (.base (.str x)) (kit_ty (by decide +kernel : kitB "str" "int" = some false)) (kit_ty (by decide +kernel : kitB "str" "bool" = some false))
  | lst q _ => exact .no (sqL_ty q) (kit_ty (by decide +kernel : kitB "list" "int" = some false)) (kit_ty (by decide +kernel : kitB "list" "bool" = some false))
  | tup q _ => exact .no (sqT_ty q) (kit_ty (by decide +kernel : kitB "tuple" "int" = some false)) (kit_ty (by decide +kernel : kitB "tuple" "bool" = some false))
theorem num_dp {v : V} {d : PyData} (h : Dp K H v d) : ∃ b, NumIs K H v b := by
  cases h with
  | non => exact ⟨_, .no (.base .non) (kit_ty (by decide +kernel : kitB "NoneType" "tuple" = some false))⟩
  | bl b => exact ⟨_, .no (.base (.bl b)) (kit_ty (by decide +kernel : kitB "bool" "tuple" = some false))⟩
  | int i => exact ⟨_, .no (.base (.int i)) (kit_ty (by decide +kernel : kitB "int" "tuple" = some false))⟩
  | str x => exact ⟨_, .no (.base (.str x)) (kit_ty (by decide +kernel : kitB "str" "tuple" = some false))⟩
  | lst q _ => exact ⟨_, .no (sqL_ty q) (kit_ty (by decide +kernel : kitB "list" "tuple" = some false))⟩
  | @tup a xs ds q r =>
    cases r with
    | nil => exact ⟨_, .len q (by decide)⟩
    | @cons x xs' d1 ds' r1 r2 =>
      cases r2 with
      | nil => exact ⟨_, .len q (by simp)⟩
      | @cons y ys d2 ds'' r3 r4 =>
        cases r4 with
        | cons r5 r6 => exact ⟨_, .len q (by simp)⟩
        | nil =>
          have w1 := whole_dp r1
          have w2 := whole_dp r3
          cases r1 with
          | int m =>
            cases r3 with
            | int e => exact ⟨_, .num q⟩
            | _ => exact ⟨_, .snd q w1 w2⟩
          | _ => exact ⟨_, .fst q w1 w2⟩
theorem num_ex {v : V} {b : Bool} (e : Ex H H') (h : NumIs K H v b) : NumIs K H' v b := by
  cases h with
  | no h k => exact .no (tyX_ex e h) k
  | len h l => exact .len (ex_t e h) l
  | fst h p q => exact .fst (ex_t e h) (whole_ex e p) (whole_ex e q)
  | snd h p q => exact .snd (ex_t e h) (whole_ex e p) (whole_ex e q)
  | num h => exact .num (ex_t e h)
mutual
theorem dp_ex (e : Ex H H') : ∀ (d : PyData) (v : V), Dp K H v d → Dp K H' v d
  | .none, _, h => by cases h; exact .non
  | .bool b, _, h => by cases h; exact .bl b
  | .int i, _, h => by cases h; exact .int i
  | .str x, _, h => by cases h; exact .str x
  | .list ds, _, h => by
    cases h with
    | lst hs ha => exact .lst (ex_l e hs) (dpAll_ex e ds _ ha)
  | .tuple ds, _, h => by
    cases h with
    | tup hs ha => exact .tup (ex_t e hs) (dpAll_ex e ds _ ha)
  | .dict _, _, h => by cases h
theorem dpAll_ex (e : Ex H H') : ∀ (ds : List PyData) (vs : List V), DpAll K H vs ds → DpAll K H' vs ds
  | [], _, h => by cases h; exact .nil
  | d :: ds, _, h => by
    cases h with
    | cons h1 h2 => exact .cons (dp_ex e d _ h1) (dpAll_ex e ds _ h2)
end
theorem dpAll_mem {vs : List V} {ds : List PyData} (h : DpAll K H vs ds) : ∀ {i : Nat} {v : V}, vs[i]? = some v → ∃ d, Dp K H v d := by
  intro i v hv
  induction vs generalizing ds i with
  | nil => simp at hv
  | cons x xs ih =>
    cases h with
    | cons h1 h2 =>
      cases i with
      | zero =>
        have e : x = v := Option.some.inj hv
        subst e
        exact ⟨_, h1⟩
      | succ j => exact ih h2 hv
theorem dpAll_append : ∀ {xs ys : List V} {ds es : List PyData}, DpAll K H xs ds → DpAll K H ys es → DpAll K H (xs ++ ys) (ds ++ es)
  | [], _, [], _, _, h => h
  | _ :: _, _, _ :: _, _, .cons h1 h2, h => .cons h1 (dpAll_append h2 h)
/-! ### data by evaluation -/
def EvD (K : PySem.W.Frag) (te : TE) (σ : L2.St) (H : Hp) : Prop := ∀ H1, Ex H H1 → ∀ Q : VK, (∀ v H2, Ex H1 H2 → (∃ d, Dp K H2 v d) → Q v H2) → te σ H1 Q
def EvDs (K : PySem.W.Frag) (ta : TA) (σ : L2.St) (H : Hp) (n : Nat) : Prop := ∀ H1, Ex H H1 → ∀ Q : List V → Hp → Prop, (∀ vs H2, Ex H1 H2 → (∃ ds, DpAll K H2 vs ds) → vs.length = n → Q vs H2) → ta σ H1 Q
variable {σ : L2.St} {ta tb te : TE}
theorem ed_of {v : V} {d : PyData} (h : Ev te σ H v) (hd : Dp K H v d) : EvD K te σ H := fun H1 e Q q => h H1 e Q fun H2 e2 => q v H2 e2 ⟨d, dp_ex (e.trans e2) d v hd⟩
theorem ed_int {i : Int} (h : Ev te σ H (.int i)) : EvD K te σ H := ed_of h (.int i)
theorem ed_c {v : V} {d : PyData} (hd : Dp K H v d) : EvD K (tC v) σ H := ed_of ev_c hd
theorem eds_nil : EvDs K tNil σ H 0 := fun H1 _ _ q => q [] H1 (Ex.refl H1) ⟨[], .nil⟩ rfl
theorem eds_cons {tr : TA} {n : Nat} (h : EvD K ta σ H) (hr : EvDs K tr σ H n) : EvDs K (tCons ta tr) σ H (n + 1) := fun H1 e Q q =>
  h H1 e _ fun v H2 e2 ⟨d, hd⟩ => hr H2 (e.trans e2) _ fun vs H3 e3 ⟨ds, hds⟩ hl => q (v :: vs) H3 (e2.trans e3) ⟨d :: ds, .cons (dp_ex e3 d v hd) hds⟩ (congrArg Nat.succ hl)
theorem ed_tup {tr : TA} {n : Nat} (h : EvDs K tr σ H n) (hn : n ≤ 100000 := by decide) : EvD K (tTup tr) σ H := fun H1 e Q q =>
  h H1 e _ fun vs H2 e2 ⟨ds, hds⟩ hl => ⟨sz_of (by rw [hl]; exact hn), fun p hp => q (.ref p) _ (e2.trans (Ex.new hp)) ⟨.tuple ds, .tup (st_of upd_same) (dpAll_ex (Ex.new hp) ds vs hds)⟩⟩
theorem ed_lst {tr : TA} {n : Nat} (h : EvDs K tr σ H n) (hn : n ≤ 100000 := by decide) : EvD K (tLst tr) σ H := fun H1 e Q q =>
  h H1 e _ fun vs H2 e2 ⟨ds, hds⟩ hl => ⟨sz_of (by rw [hl]; exact hn), fun p hp => q (.ref p) _ (e2.trans (Ex.new hp)) ⟨.list ds, .lst (sq_of upd_same) (dpAll_ex (Ex.new hp) ds vs hds)⟩⟩
/-- a new list of data -/
def EvLD (K : PySem.W.Frag) (te : TE) (σ : L2.St) (H : Hp) (n : Nat) : Prop := ∀ H1, Ex H H1 → ∀ Q : VK, (∀ p vs H2, Ex H1 H2 → H1 p = none → H2 p = some (.lst vs) → (∃ ds, DpAll K H2 vs ds) → vs.length = n → Q (.ref p) H2) → te σ H1 Q
theorem eld_lst {tr : TA} {n : Nat} (h : EvDs K tr σ H n) (hn : n ≤ 100000 := by decide) : EvLD K (tLst tr) σ H n := fun H1 e Q q =>
  h H1 e _ fun vs H2 e2 ⟨ds, hds⟩ hl => ⟨sz_of (by rw [hl]; exact hn), fun p hp => q p vs _ (e2.trans (Ex.new hp)) (fresh_back e2 hp) upd_same ⟨ds, dpAll_ex (Ex.new hp) ds vs hds⟩ hl⟩
/-- at slot i stands a list of n data -/
def LdAt (K : PySem.W.Frag) (H : Hp) (v : V) (n : Nat) : Prop := ∃ p vs, v = .ref p ∧ H p = some (.lst vs) ∧ vs.length = n ∧ ∃ ds, DpAll K H vs ds
theorem ldAt_ex {v : V} {n : Nat} (e : Ex H H') (h : LdAt K H v n) : LdAt K H' v n := by
  obtain ⟨p, vs, e1, h1, h2, ds, h3⟩ := h
  exact ⟨p, vs, e1, e _ _ h1, h2, ds, dpAll_ex e ds vs h3⟩
theorem eld_cat {v : V} {i n m : Nat} (hv : σ[i]? = some (some v)) (hl : LdAt K H v n) (h : EvLD K tb σ H m) (hn : n + m ≤ 100000 := by decide) : EvLD K (tOp rCat (tVar i) tb) σ H (n + m) := fun H1 e Q q => by
  obtain ⟨a, us, rfl, h1, h2, ds, h3⟩ := hl
  refine ⟨.ref a, hv, h H1 e _ fun p vs H2 e2 hp hvs ⟨es, hes⟩ hlen => ?_⟩
  refine ⟨a, p, us, vs, rfl, rfl, (e.trans e2) _ _ h1, hvs, sz_of (by rw [h2, hlen]; exact hn), fun r hr => ?_⟩
  exact q r (us ++ vs) _ (e2.trans (Ex.new hr)) (fresh_back e2 hr) upd_same ⟨ds ++ es, dpAll_append (dpAll_ex ((e.trans e2).trans (Ex.new hr)) ds us h3) (dpAll_ex (Ex.new hr) es vs hes)⟩ (by rw [List.length_append, h2, hlen])
end
/-! ### isinstance by kinds -/
section
variable {K : PySem.W.Frag} {H : Hp} {v : V} {t : Value} {b : Bool} {Q : VK}
theorem isi_at {T : String} (h : TyX K H v t) (k : PySem.W.kitOne K t (.type T) = some b) (q : Q (.bl b) H) : rIsi K [v, .ty T] H Q := ⟨v, .ty T, t, .type T, b, rfl, .ty T, h, k, q⟩
theorem isi_tup {a : Addr} {xs : List V} (h : SqT K H a xs) (q : Q (.bl true) H) : rIsi K [.ref a, .ty "tuple"] H Q := isi_at (sqT_ty h) (kit_ty (by decide +kernel : kitB "tuple" "tuple" = some true)) q
theorem rd_isi {σ : L2.St} {i : Nat} {T : String} (hv : σ[i]? = some (some v)) (h : TyX K H v t) (k : PySem.W.kitOne K t (.type T) = some b) (q : Q (.bl b) H) : tCB (rIsi K) (tCons (tVar i) (tCons (tC (.ty T)) tNil)) σ H Q := ⟨v, hv, isi_at h k q⟩
theorem rd_tup {σ : L2.St} {i : Nat} {a : Addr} {xs : List V} (hv : σ[i]? = some (some (.ref a))) (h : SqT K H a xs) (q : Q (.bl true) H) : tCB (rIsi K) (tCons (tVar i) (tCons (tC (.ty "tuple")) tNil)) σ H Q := ⟨_, hv, isi_tup h q⟩
theorem rd_isiE {σ : L2.St} {ta : TE} {T : String} (hv : ∀ Q' : VK, Q' v H → ta σ H Q') (h : TyX K H v t) (k : PySem.W.kitOne K t (.type T) = some b) (q : Q (.bl b) H) : tCB (rIsi K) (tCons ta (tCons (tC (.ty T)) tNil)) σ H Q := hv _ (isi_at h k q)
theorem rd_tupC {σ : L2.St} {ta : TE} {W : V → Hp → Prop} (hv : ∀ Q' : VK, (∀ v H', W v H' → Q' v H') → ta σ H Q') (hW : ∀ v H', W v H' → ∃ a xs, v = .ref a ∧ SqT K H' a xs) (q : ∀ v H', W v H' → Q (.bl true) H') : tCB (rIsi K) (tCons ta (tCons (tC (.ty "tuple")) tNil)) σ H Q := hv _ fun v H' hw => by
  obtain ⟨a, xs, rfl, h⟩ := hW v H' hw
  exact isi_tup h (q _ H' hw)
theorem g_name {σ : L2.St} {i : Nat} {Q : L2.St → Hp → Prop} (h : Q (σ.set i (some v)) H) : gName i v σ H Q := h
section
variable {σ : L2.St} {D : Ends} {c u' : TT} {t1 t2 : TS} {te ta' tb' : TE} {B : Bool → Hp → Prop} {g : TG}
theorem o_if (h : c σ H fun b H1 => if b = true then t1 D σ H1 else t2 D σ H1) : tIfS c t1 t2 D σ H := h
theorem o_or (h : c σ H fun b H1 => if b = true then B true H1 else u' σ H1 B) : tOr c u' σ H B := h
theorem o_and (h : c σ H fun b H1 => if b = true then u' σ H1 B else B false H1) : tAnd c u' σ H B := h
theorem o_not (h : c σ H fun b H1 => B (!b) H1) : tNot c σ H B := h
theorem o_b (h : te σ H fun x H1 => ∃ b, x = .bl b ∧ B b H1) : tB te σ H B := h
theorem o_test (h : te σ H fun x H1 => ∃ b, x = .bl b ∧ B b H1) : tTest te σ H B := h
theorem o_seq (h : t1 { D with nx := t2 D } σ H) : tSeq t1 t2 D σ H := h
theorem o_asg (h : te σ H fun x H1 => g x σ H1 D.nx) : tAsg te g D σ H := h
theorem o_ret (h : te σ H D.rt) : tRet te D σ H := h
theorem o_orV (h : ta' σ H fun x H1 => ∃ b, x = .bl b ∧ if b = true then Q (.bl true) H1 else tb' σ H1 Q) : tOrV ta' tb' σ H Q := h
theorem o_andV (h : ta' σ H fun x H1 => ∃ b, x = .bl b ∧ if b = true then tb' σ H1 Q else Q (.bl false) H1) : tAndV ta' tb' σ H Q := h
end
theorem isi_noTup (h : TyX K H v t) (k : PySem.W.kitOne K t (.type "tuple") = some false) (q : Q (.bl false) H) : rIsi K [v, .ty "tuple"] H Q := isi_at h k q
end
/-! ### x is True, x & 1 of what may be a truth -/
def intOrBl : V → Bool
  | .int _ => true
  | .bl _ => true
  | _ => false
def rIsT : R2 := fun x y H Q => ∃ b, y = .bl b ∧ intOrBl x = true ∧ Q (.bl (decide (x = .bl b))) H
def rNotT : R2 := fun x y H Q => ∃ b, y = .bl b ∧ intOrBl x = true ∧ Q (.bl (!decide (x = .bl b))) H
theorem gives_int_and_bi (p : Bool) (b : Int) (u : Tok) : Gives (Builtin.«int.__and__» ⟨[.bool p, .int b u], []⟩) (.int (Builtin.bitAnd (if p = true then (1 : Int) else 0) b)) :=
  .of_wp fun M A E s Q h => by obtain ⟨hp, g, d, tk, os⟩ := s; wp_walk; exact ⟨_, rfl, h⟩
theorem gives_bool_and_bi (p : Bool) (b : Int) (u : Tok) : Gives (Builtin.«bool.__and__» ⟨[.bool p, .int b u], []⟩) (.int (Builtin.bitAnd (if p = true then (1 : Int) else 0) b)) := by
  show Gives (do rule "bool.bitwise.as-ints"; again (.builtin "int.__and__" ⟨[.bool p, .int b u], []⟩)) _
  exact .rule (.again rfl (by decide +kernel) PySem.F.entry_int_and (gives_int_and_bi p b u))
theorem and_bool_int {prog : Program} {w : World} {A : Around} {E : Value → Shared → Prop} {s : Shared} {p : Bool} {b : Int} {u : Tok} {Q : Value → Shared → Prop} (h : Q (.int (Builtin.bitAnd (if p = true then (1 : Int) else 0) b) s.toks) { s with toks := s.toks + 1 }) : wpAny (model prog w) A (binaryOp .BitAnd (.bool p) (.int b u)) Q E s :=
  binaryOp_left_gives (op := .BitAnd) (T := "bool") (U := "int") (by decide) (typeIs_bool' s p) (fun s' => typeIs_int s' b u) PySem.F.fills_bool_and PySem.F.fills_int_and isSubtype_int_bool PySem.F.slot_bool_and PySem.F.slot_int_rand PySem.F.entry_bool_and (PySem.F.args_bool_and_2 _ _) (gives_bool_and_bi p b u) trivial h
def rAnd1 : R2 := fun x y H Q => y = .int 1 ∧ ((∃ i, x = .int i ∧ Q (.int (i % 2)) H) ∨ (∃ k : Bool, x = .bl k ∧ Q (.int (if k = true then 1 else 0)) H))
section
variable {X : Cx}
theorem op_isT : OpR X (compareOp .Is) rIsT := by
  intro pins s σ H x y v u Q I rx ry h
  obtain ⟨b, rfl, hx, q⟩ := h
  cases (show u = Value.bool b from ry)
  cases x with
  | int i =>
    obtain ⟨t, rfl⟩ := rx
    refine wpAny_is_other rfl (fun z => by cases z) ⟨.bl false, H, I, rfl, ?_⟩
    rw [decide_eq_false (fun z => by cases z)] at q
    exact q
  | bl a =>
    cases (show v = Value.bool a from rx)
    by_cases e : a = b
    · subst e
      exact wpAny_is_self rfl ⟨.bl true, H, I, rfl, by simpa using q⟩
    · exact wpAny_is_other rfl (fun z => e (Value.bool.inj z)) ⟨.bl false, H, I, rfl, by simpa [e] using q⟩
  | _ => cases hx
theorem op_notT : OpR X (compareOp .IsNot) rNotT := by
  intro pins s σ H x y v u Q I rx ry h
  obtain ⟨b, rfl, hx, q⟩ := h
  cases (show u = Value.bool b from ry)
  cases x with
  | int i =>
    obtain ⟨t, rfl⟩ := rx
    refine wpAny_isNot_other rfl (fun z => by cases z) ⟨.bl true, H, I, rfl, ?_⟩
    rw [decide_eq_false (fun z => by cases z)] at q
    exact q
  | bl a =>
    cases (show v = Value.bool a from rx)
    by_cases e : a = b
    · subst e
      exact wpAny_isNot_self rfl ⟨.bl false, H, I, rfl, by simpa using q⟩
    · exact wpAny_isNot_other rfl (fun z => e (Value.bool.inj z)) ⟨.bl true, H, I, rfl, by simpa [e] using q⟩
  | _ => cases hx
theorem op_and1 : OpR X (binaryOp .BitAnd) rAnd1 := by
  intro pins s σ H x y v u Q I rx ry h
  obtain ⟨rfl, ⟨i, rfl, q⟩ | ⟨k, rfl, q⟩⟩ := h
  · obtain ⟨t, rfl⟩ := rx
    obtain ⟨t', rfl⟩ := ry
    rw [← bitAnd_m1] at q
    exact and_int ⟨.int _, H, I.tok _, ⟨_, rfl⟩, q⟩
  · obtain ⟨t', rfl⟩ := ry
    cases (show v = Value.bool k from rx)
    have e : Builtin.bitAnd (if k = true then (1 : Int) else 0) 1 = if k = true then 1 else 0 := by cases k <;> decide
    exact and_bool_int (by rw [e]; exact ⟨.int _, H, I.tok _, ⟨_, rfl⟩, q⟩)
end
/-! ### odd parts -/
theorem pow_pos2 (k : Nat) : (0 : Int) < 2 ^ k := Int.pow_pos (by decide)
theorem pow_two_cast (k : Nat) : ((2 ^ k : Nat) : Int) = 2 ^ k := by
  induction k with
  | zero => rfl
  | succ n ih => rw [Nat.pow_succ, Int.pow_succ, Int.natCast_mul, ih] <;> rfl
def tz : Nat → Nat → Nat
  | 0, _ => 0
  | f + 1, n => if n % 2 = 0 then tz f (n / 2) + 1 else 0
theorem tz_spec : ∀ (f n : Nat), 0 < n → n ≤ f → ∃ a, n = 2 ^ tz f n * (2 * a + 1)
  | 0, n, h, l => by omega
  | f + 1, n, h, l => by
    unfold tz
    by_cases e : n % 2 = 0
    · rw [if_pos e]
      obtain ⟨a, ha⟩ := tz_spec f (n / 2) (by omega) (by omega)
      refine ⟨a, ?_⟩
      rw [Nat.pow_succ, Nat.mul_comm (2 ^ tz f (n / 2)) 2, Nat.mul_assoc, ← ha]
      omega
    · rw [if_neg e]
      exact ⟨n / 2, by omega⟩
def v2 (m : Int) : Nat := tz m.natAbs m.natAbs
theorem v2_spec {m : Int} (h : m ≠ 0) : ∃ a : Int, m = 2 ^ v2 m * (2 * a + 1) := by
  obtain ⟨a, ha⟩ := tz_spec m.natAbs m.natAbs (by omega) (Nat.le_refl _)
  have hc : (m.natAbs : Int) = 2 ^ v2 m * (2 * (a : Int) + 1) := by
    have h1 : (m.natAbs : Int) = ((2 ^ v2 m * (2 * a + 1) : Nat) : Int) := congrArg Int.ofNat ha
    rw [h1, Int.natCast_mul, pow_two_cast]
    rfl
  rcases Int.natAbs_eq m with e | e
  · exact ⟨a, e.trans hc⟩
  · refine ⟨-(a : Int) - 1, ?_⟩
    have h2 : m = -(2 ^ v2 m * (2 * (a : Int) + 1)) := by rw [← hc]; exact e
    have h3 : (2 * (-(a : Int) - 1) + 1) = -(2 * (a : Int) + 1) := by omega
    rw [h3, Int.mul_neg]
    exact h2
theorem odd_unique {k j : Nat} {a b : Int} (h : (2 : Int) ^ k * (2 * a + 1) = 2 ^ j * (2 * b + 1)) : k = j ∧ a = b := by
  rcases Nat.lt_trichotomy k j with l | l | l
  · obtain ⟨i, rfl⟩ : ∃ i, j = k + (i + 1) := ⟨j - k - 1, by omega⟩
    rw [Int.pow_add, Int.mul_assoc] at h
    have h2 := Int.eq_of_mul_eq_mul_left (Int.ne_of_gt (pow_pos2 k)) h
    rw [Int.pow_succ, Int.mul_assoc, Int.mul_left_comm] at h2
    generalize (2 : Int) ^ i * (2 * b + 1) = z at h2
    omega
  · subst l
    have h2 := Int.eq_of_mul_eq_mul_left (Int.ne_of_gt (pow_pos2 k)) h
    exact ⟨rfl, by omega⟩
  · obtain ⟨i, rfl⟩ : ∃ i, k = j + (i + 1) := ⟨k - j - 1, by omega⟩
    rw [Int.pow_add, Int.mul_assoc] at h
    have h2 := Int.eq_of_mul_eq_mul_left (Int.ne_of_gt (pow_pos2 j)) h
    rw [Int.pow_succ, Int.mul_assoc, Int.mul_left_comm] at h2
    generalize (2 : Int) ^ i * (2 * a + 1) = z at h2
    omega
/-- the number m times 2 ** e, told its one way -/
def nrm (m e : Int) : Int × Int := if m = 0 then (0, 0) else (m / 2 ^ v2 m, e + v2 m)
theorem nrm_zero (e : Int) : nrm 0 e = (0, 0) := rfl
theorem nrm_of {m a : Int} {k : Nat} (e : Int) (h : m = 2 ^ k * (2 * a + 1)) : nrm m e = (2 * a + 1, e + k) := by
  have h0 : m ≠ 0 := by
    intro z
    rw [z] at h
    rcases Int.mul_eq_zero.mp h.symm with q | q
    · exact absurd q (Int.ne_of_gt (pow_pos2 k))
    · omega
  obtain ⟨b, hb⟩ := v2_spec h0
  obtain ⟨e1, e2⟩ := odd_unique (hb.symm.trans h)
  unfold nrm
  rw [if_neg h0, e1]
  have h3 : m / 2 ^ k = 2 * a + 1 := by
    rw [h]
    exact Int.mul_ediv_cancel_left _ (Int.ne_of_gt (pow_pos2 k))
  rw [h3]
theorem nrm_num (m e : Int) : isNumB (nrm m e).1 (nrm m e).2 = true := by
  by_cases h : m = 0
  · subst h
    rfl
  · obtain ⟨a, ha⟩ := v2_spec h
    rw [nrm_of e ha]
    unfold isNumB
    rw [decide_eq_true (show (2 * a + 1) % 2 = 1 by omega)]
    rfl
theorem nrm_self {m e : Int} (h : isNumB m e = true) : nrm m e = (m, e) := by
  unfold isNumB at h
  rcases Bool.or_eq_true_iff.mp h with q | q
  · have q2 : m % 2 = 1 := of_decide_eq_true q
    have e1 : m = 2 ^ 0 * (2 * (m / 2) + 1) := by
      rw [Int.pow_zero, Int.one_mul]
      omega
    rw [nrm_of e e1]
    have e2 : 2 * (m / 2) + 1 = m := by omega
    rw [e2]
    show (m, e + 0) = (m, e)
    rw [Int.add_zero]
  · obtain ⟨q1, q2⟩ := Bool.and_eq_true_iff.mp q
    have e1 : m = 0 := of_decide_eq_true q1
    have e2 : e = 0 := of_decide_eq_true q2
    subst e1 e2
    rfl
theorem nrm_abs (m e : Int) : (nrm m e).1.natAbs ≤ m.natAbs := by
  by_cases h : m = 0
  · subst h
    exact Nat.le_refl _
  · obtain ⟨a, ha⟩ := v2_spec h
    rw [nrm_of e ha]
    show (2 * a + 1).natAbs ≤ m.natAbs
    have e1 : m.natAbs = ((2 : Int) ^ v2 m).natAbs * (2 * a + 1).natAbs := by
      have := congrArg Int.natAbs ha
      rw [Int.natAbs_mul] at this
      exact this
    rw [e1]
    refine Nat.le_mul_of_pos_left _ ?_
    have := pow_pos2 (v2 m)
    omega
theorem v2_lt {m : Int} {k : Nat} (h : m.natAbs < 2 ^ k) (h0 : m ≠ 0) : v2 m < k := by
  obtain ⟨a, ha⟩ := v2_spec h0
  have e1 : m.natAbs = ((2 : Int) ^ v2 m).natAbs * (2 * a + 1).natAbs := by
    have := congrArg Int.natAbs ha
    rw [Int.natAbs_mul] at this
    exact this
  have e2 : ((2 : Int) ^ v2 m).natAbs = 2 ^ v2 m := by rw [← pow_two_cast]; rfl
  have h1 : 2 ^ v2 m ≤ m.natAbs := by
    rw [e1, e2]
    exact Nat.le_mul_of_pos_right _ (by omega)
  exact (Nat.pow_lt_pow_iff_right (by decide)).mp (Nat.lt_of_le_of_lt h1 h)
theorem nrm_exp {m e : Int} {k : Nat} (h : m.natAbs < 2 ^ k) : (nrm m e).2.natAbs ≤ e.natAbs + k := by
  by_cases h0 : m = 0
  · subst h0
    exact Nat.zero_le _
  · have := v2_lt h h0
    unfold nrm
    rw [if_neg h0]
    show (e + (v2 m : Int)).natAbs ≤ _
    omega
theorem bits_two (k : Nat) : Builtin.Int.intBits (2 ^ k) = k + 1 := by
  have h : (2 : Int) ^ k ≠ 0 := Int.ne_of_gt (pow_pos2 k)
  unfold Builtin.Int.intBits
  have e : ((2 : Int) ^ k == 0) = false := by
    rw [beq_eq_false_iff_ne]
    exact h
  rw [e]
  have e2 : ((2 : Int) ^ k).natAbs = 2 ^ k := by rw [← pow_two_cast]; rfl
  rw [e2, Nat.log2_two_pow]
  rfl
end Onc

namespace Onc
open PySem PySem.Spec PyProof.Rows L2 Evl
/-! ### numbers at a power -/
def at_ (n : Int × Int) (E : Int) : Int := n.1 * 2 ^ (n.2 - E).toNat
theorem nrm_shift (m e : Int) (k : Nat) : nrm (m * 2 ^ k) e = nrm m (e + k) := by
  by_cases h : m = 0
  · subst h
    rw [Int.zero_mul]
    rfl
  · obtain ⟨a, ha⟩ := v2_spec h
    have e1 : m * 2 ^ k = 2 ^ (v2 m + k) * (2 * a + 1) := by
      rw [Int.pow_add, Int.mul_assoc, Int.mul_comm (2 ^ k) (2 * a + 1), ← Int.mul_assoc, ← ha]
    rw [nrm_of e e1, nrm_of (e + k) ha]
    congr 1
    omega
theorem nrm_at {x E E' : Int} (h : E' ≤ E) : at_ (nrm x E) E' = x * 2 ^ (E - E').toNat := by
  by_cases h0 : x = 0
  · subst h0
    unfold at_
    rw [nrm_zero, Int.zero_mul, Int.zero_mul]
  · obtain ⟨a, ha⟩ := v2_spec h0
    rw [nrm_of E ha]
    show (2 * a + 1) * 2 ^ (E + (v2 x : Int) - E').toNat = x * 2 ^ (E - E').toNat
    have e1 : (E + (v2 x : Int) - E').toNat = v2 x + (E - E').toNat := by omega
    rw [e1, Int.pow_add, ← Int.mul_assoc, Int.mul_comm (2 * a + 1) (2 ^ v2 x), ← ha]
theorem at_same (x E : Int) : at_ (nrm x E) E = x := by
  rw [nrm_at (Int.le_refl E), show (E - E).toNat = 0 by omega, Int.pow_zero, Int.mul_one]
theorem nrm_le {x E : Int} (h : E ≤ 0) : E ≤ (nrm x E).2 := by
  unfold nrm
  by_cases h0 : x = 0
  · rw [if_pos h0]
    exact h
  · rw [if_neg h0]
    show E ≤ E + (v2 x : Int)
    omega
theorem nrm_inj {x y E : Int} (h : nrm x E = nrm y E) : x = y := by
  rw [← at_same x E, h, at_same]
theorem at_split {n : Int × Int} {E M : Int} (h : E ≤ M) (hM : M ≤ n.2) : at_ n E = at_ n M * 2 ^ (M - E).toNat := by
  unfold at_
  rw [show (n.2 - E).toNat = (n.2 - M).toNat + (M - E).toNat by omega, Int.pow_add, Int.mul_assoc]
theorem num_at {n : Int × Int} {E : Int} (hn : isNumB n.1 n.2 = true) (h : E ≤ n.2) : nrm (at_ n E) E = n := by
  unfold at_
  rw [nrm_shift, show E + ((n.2 - E).toNat : Int) = n.2 by omega, nrm_self hn]
def padd (a b : Int × Int) : Int × Int := nrm (at_ a (min a.2 b.2) + at_ b (min a.2 b.2)) (min a.2 b.2)
theorem padd_at {a b : Int × Int} {E : Int} (ha : E ≤ a.2) (hb : E ≤ b.2) : padd a b = nrm (at_ a E + at_ b E) E := by
  have hM : E ≤ min a.2 b.2 := by omega
  rw [at_split (n := a) hM (by omega), at_split (n := b) hM (by omega), ← Int.add_mul, nrm_shift, show E + ((min a.2 b.2 - E).toNat : Int) = min a.2 b.2 by omega]
  rfl
def pneg (a : Int × Int) : Int × Int := (-a.1, a.2)
theorem at_neg (a : Int × Int) (E : Int) : at_ (pneg a) E = -at_ a E := by
  unfold at_ pneg
  rw [Int.neg_mul]
def psub (a b : Int × Int) : Int × Int := padd a (pneg b)
theorem psub_at {a b : Int × Int} {E : Int} (ha : E ≤ a.2) (hb : E ≤ b.2) : psub a b = nrm (at_ a E - at_ b E) E := by
  unfold psub
  rw [padd_at ha (show E ≤ (pneg b).2 from hb), at_neg]
  rfl
def pmul (a b : Int × Int) : Int × Int := nrm (a.1 * b.1) (a.2 + b.2)
theorem pmul_at {a b : Int × Int} {E F : Int} (ha : E ≤ a.2) (hb : F ≤ b.2) : pmul a b = nrm (at_ a E * at_ b F) (E + F) := by
  unfold at_
  have e1 : a.1 * 2 ^ (a.2 - E).toNat * (b.1 * 2 ^ (b.2 - F).toNat) = a.1 * b.1 * 2 ^ ((a.2 - E).toNat + (b.2 - F).toNat) := by
    rw [Int.pow_add, Int.mul_assoc, Int.mul_assoc, Int.mul_left_comm (2 ^ (a.2 - E).toNat) b.1]
  rw [e1, nrm_shift, show E + F + (((a.2 - E).toNat + (b.2 - F).toNat : Nat) : Int) = a.2 + b.2 by omega]
  rfl
/-! ### signs -/
def sgn (x : Int) : Int := if x = 0 then 0 else if 0 < x then 1 else -1
theorem sgn_pos {x : Int} (h : 0 < x) : sgn x = 1 := by
  unfold sgn
  rw [if_neg (by omega), if_pos h]
theorem sgn_neg {x : Int} (h : x < 0) : sgn x = -1 := by
  unfold sgn
  rw [if_neg (by omega), if_neg (by omega)]
theorem sgn_zero : sgn 0 = 0 := rfl
theorem sgn_mul (x : Int) (k : Nat) : sgn (x * 2 ^ k) = sgn x := by
  have hp := pow_pos2 k
  rcases Int.lt_trichotomy x 0 with h | h | h
  · rw [sgn_neg h, sgn_neg (Int.mul_neg_of_neg_of_pos h hp)]
  · subst h
    rw [Int.zero_mul]
  · rw [sgn_pos h, sgn_pos (Int.mul_pos h hp)]
theorem sgn_nrm (x E : Int) : sgn (nrm x E).1 = sgn x := by
  have h := nrm_at (x := x) (E := E) (E' := E) (Int.le_refl E)
  unfold at_ at h
  rw [show (E - E).toNat = 0 by omega, Int.pow_zero, Int.mul_one] at h
  rw [← sgn_mul (nrm x E).1, h]
def pord (a b : Int × Int) : Int := sgn (at_ a (min a.2 b.2) - at_ b (min a.2 b.2))
theorem pord_at {a b : Int × Int} {E : Int} (ha : E ≤ a.2) (hb : E ≤ b.2) : pord a b = sgn (at_ a E - at_ b E) := by
  have hM : E ≤ min a.2 b.2 := by omega
  rw [at_split (n := a) hM (by omega), at_split (n := b) hM (by omega), ← Int.sub_mul, sgn_mul]
  rfl
theorem pord_sub (a b : Int × Int) : sgn (psub a b).1 = pord a b := by
  rw [psub_at (E := min a.2 b.2) (by omega) (by omega), sgn_nrm]
  rfl
/-! ### sizes -/
def psize (a : Int × Int) : Int := (Builtin.Int.intBits a.1 : Int) - 1 + a.2
def prank (a : Int × Int) : Int × Int := (sgn a.1, sgn a.1 * psize a)
theorem bits_of {m : Int} (h : m ≠ 0) : Builtin.Int.intBits m = m.natAbs.log2 + 1 := by
  unfold Builtin.Int.intBits
  rw [show (m == 0) = false from by rw [beq_eq_false_iff_ne]; exact h]
  rfl
theorem at_abs (a : Int × Int) (E : Int) : (at_ a E).natAbs = a.1.natAbs * 2 ^ (a.2 - E).toNat := by
  unfold at_
  rw [Int.natAbs_mul]
  have e : ((2 : Int) ^ (a.2 - E).toNat).natAbs = 2 ^ (a.2 - E).toNat := by
    rw [← pow_two_cast]
    rfl
  rw [e]
theorem size_lt {a b : Int × Int} {E : Int} (ha : a.1 ≠ 0) (hb : b.1 ≠ 0) (ea : E ≤ a.2) (eb : E ≤ b.2) (h : psize a < psize b) : (at_ a E).natAbs < (at_ b E).natAbs := by
  unfold psize at h
  rw [bits_of ha, bits_of hb] at h
  rw [at_abs, at_abs]
  have l1 : a.1.natAbs < 2 ^ (a.1.natAbs.log2 + 1) := Nat.lt_log2_self
  have l2 : 2 ^ b.1.natAbs.log2 ≤ b.1.natAbs := Nat.log2_self_le (by omega)
  have hp : ∀ k : Nat, 0 < 2 ^ k := fun k => Nat.pow_pos (by decide)
  refine Nat.lt_of_lt_of_le (Nat.mul_lt_mul_of_pos_right l1 (hp _)) (Nat.le_trans ?_ (Nat.mul_le_mul_right _ l2))
  rw [← Nat.pow_add, ← Nat.pow_add]
  exact Nat.pow_le_pow_right (by decide) (by omega)
theorem at_sgn (a : Int × Int) (E : Int) : sgn (at_ a E) = sgn a.1 := sgn_mul _ _
theorem sgn_of_pos {x : Int} (h : sgn x = 1) : 0 < x := by
  rcases Int.lt_trichotomy x 0 with q | q | q
  · rw [sgn_neg q] at h
    cases h
  · subst q
    cases h
  · exact q
theorem sgn_of_neg {x : Int} (h : sgn x = -1) : x < 0 := by
  rcases Int.lt_trichotomy x 0 with q | q | q
  · exact q
  · subst q
    cases h
  · rw [sgn_pos q] at h
    cases h
theorem sgn_of_zero {x : Int} (h : sgn x = 0) : x = 0 := by
  rcases Int.lt_trichotomy x 0 with q | q | q
  · rw [sgn_neg q] at h
    cases h
  · exact q
  · rw [sgn_pos q] at h
    cases h
theorem sgn_cases (x : Int) : sgn x = 1 ∨ sgn x = -1 ∨ sgn x = 0 := by
  rcases Int.lt_trichotomy x 0 with q | q | q
  · exact .inr (.inl (sgn_neg q))
  · subst q
    exact .inr (.inr rfl)
  · exact .inl (sgn_pos q)
/-- ranks that differ are in the order of the numbers -/
theorem rank_gt {a b : Int × Int} (h : (prank b).1 < (prank a).1 ∨ ((prank b).1 = (prank a).1 ∧ (prank b).2 < (prank a).2)) : pord a b = 1 := by
  have ea : min a.2 b.2 ≤ a.2 := by omega
  have eb : min a.2 b.2 ≤ b.2 := by omega
  refine sgn_pos ?_
  generalize min a.2 b.2 = E at *
  have sa := at_sgn a E
  have sb := at_sgn b E
  unfold prank at h
  simp only at h
  rcases sgn_cases a.1 with qa | qa | qa <;> rcases sgn_cases b.1 with qb | qb | qb <;> rw [qa] at sa h <;> rw [qb] at sb h
  · have pa := sgn_of_pos sa
    have pb := sgn_of_pos sb
    have na : a.1 ≠ 0 := fun z => by rw [z] at qa; cases qa
    have nb : b.1 ≠ 0 := fun z => by rw [z] at qb; cases qb
    have := size_lt (E := E) nb na eb ea (by omega)
    omega
  · have pa := sgn_of_pos sa
    have pb := sgn_of_neg sb
    omega
  · have pa := sgn_of_pos sa
    have pb := sgn_of_zero sb
    omega
  · omega
  · have pa := sgn_of_neg sa
    have pb := sgn_of_neg sb
    have na : a.1 ≠ 0 := fun z => by rw [z] at qa; cases qa
    have nb : b.1 ≠ 0 := fun z => by rw [z] at qb; cases qb
    have := size_lt (E := E) na nb ea eb (by omega)
    omega
  · omega
  · omega
  · have pa := sgn_of_zero sa
    have pb := sgn_of_neg sb
    omega
  · omega
theorem sgn_swap (x : Int) : sgn (-x) = -sgn x := by
  rcases Int.lt_trichotomy x 0 with q | q | q
  · rw [sgn_neg q, sgn_pos (by omega)]
    rfl
  · subst q
    rfl
  · rw [sgn_pos q, sgn_neg (by omega)]
theorem pord_swap (a b : Int × Int) : pord b a = -pord a b := by
  rw [pord_at (a := b) (b := a) (E := min a.2 b.2) (by omega) (by omega), ← Int.neg_sub, sgn_swap]
  rfl
/-! ### bounds -/
def Bd (a : Int × Int) (B : Nat) : Prop := a.1.natAbs < 2 ^ B ∧ a.2.natAbs ≤ B
theorem Bd.mono {a : Int × Int} {B C : Nat} (h : Bd a B) (l : B ≤ C) : Bd a C := ⟨Nat.lt_of_lt_of_le h.1 (Nat.pow_le_pow_right (by decide) l), Nat.le_trans h.2 l⟩
theorem bd_neg {a : Int × Int} {B : Nat} (h : Bd a B) : Bd (pneg a) B := ⟨by show (-a.1).natAbs < _; rw [Int.natAbs_neg]; exact h.1, h.2⟩
theorem bd_nrm {m e : Int} {k B : Nat} (hm : m.natAbs < 2 ^ k) (he : e.natAbs + k ≤ B) : Bd (nrm m e) B :=
  ⟨Nat.lt_of_le_of_lt (nrm_abs m e) (Nat.lt_of_lt_of_le hm (Nat.pow_le_pow_right (by decide) (by omega))), Nat.le_trans (nrm_exp hm) he⟩
theorem at_bd {a : Int × Int} {B C : Nat} {E : Int} (h : Bd a B) (hE : E.natAbs ≤ C) : (at_ a E).natAbs < 2 ^ (2 * B + C) := by
  rw [at_abs]
  have h1 : a.1.natAbs * 2 ^ (a.2 - E).toNat < 2 ^ B * 2 ^ (a.2 - E).toNat := Nat.mul_lt_mul_of_pos_right h.1 (Nat.pow_pos (by decide))
  rw [← Nat.pow_add] at h1
  have h2 := h.2
  exact Nat.lt_of_lt_of_le h1 (Nat.pow_le_pow_right (by decide) (by omega))
theorem bd_add {a b : Int × Int} {B : Nat} (ha : Bd a B) (hb : Bd b B) : Bd (padd a b) (4 * B + 1) := by
  have hE : (min a.2 b.2).natAbs ≤ B := by
    have := ha.2
    have := hb.2
    omega
  have h1 := at_bd ha hE
  have h2 := at_bd hb hE
  refine bd_nrm (k := 2 * B + B + 1) ?_ (by omega)
  have e : 2 ^ (2 * B + B + 1) = 2 ^ (2 * B + B) * 2 := Nat.pow_succ ..
  omega
theorem bd_sub {a b : Int × Int} {B : Nat} (ha : Bd a B) (hb : Bd b B) : Bd (psub a b) (4 * B + 1) := bd_add ha (bd_neg hb)
theorem bd_mul {a b : Int × Int} {B : Nat} (ha : Bd a B) (hb : Bd b B) : Bd (pmul a b) (4 * B) := by
  refine bd_nrm (k := 2 * B) ?_ ?_
  · rw [Int.natAbs_mul, Nat.two_mul, Nat.pow_add]
    exact Nat.mul_lt_mul'' ha.1 hb.1
  · have := ha.2
    have := hb.2
    omega
theorem num_neg {a : Int × Int} (h : isNumB a.1 a.2 = true) : isNumB (pneg a).1 (pneg a).2 = true := by
  unfold isNumB at *
  show (decide (-a.1 % 2 = 1) || (decide (-a.1 = 0) && decide (a.2 = 0))) = true
  rcases Bool.or_eq_true_iff.mp h with q | q
  · have q2 : a.1 % 2 = 1 := of_decide_eq_true q
    rw [decide_eq_true (show -a.1 % 2 = 1 by omega)]
    rfl
  · obtain ⟨q1, q2⟩ := Bool.and_eq_true_iff.mp q
    have e1 : a.1 = 0 := of_decide_eq_true q1
    rw [q2, decide_eq_true (show -a.1 = 0 by omega), Bool.and_true, Bool.or_true]
theorem num_add (a b : Int × Int) : isNumB (padd a b).1 (padd a b).2 = true := nrm_num _ _
theorem num_mul (a b : Int × Int) : isNumB (pmul a b).1 (pmul a b).2 = true := nrm_num _ _
/-! ### t > u of data -/
section
variable {X : Cx}
def rGtD (K : PySem.W.Frag) : R2 := fun x y H Q => ∃ d e, Dp K H x d ∧ Dp K H y e ∧ PySem.W.alike d e = true ∧ d ≠ .none ∧ d.depth ≤ 64 ∧ Q (.bl (PySem.W.dataLt e d)) H
theorem op_gtD (hu : X.A.units + 64 < cLine) : OpR X (compareOp .Gt) (rGtD X.K) := by
  intro pins s σ H x y v u Q I rx ry h
  obtain ⟨d, e, hd, he, al, nn, dp, q⟩ := h
  obtain ⟨as, r1⟩ := Dp.reads I d x v hd rx
  obtain ⟨bs, r2⟩ := Dp.reads I e y u he ry
  exact PySem.W.gt_data r1 r2 al nn (by have := Nat.min_le_left d.depth e.depth; omega) ⟨.bl _, H, I, rfl, q⟩
end
theorem lt_pairs (a b c d : Int) : PySem.W.dataLt (.tuple [.int a, .int b]) (.tuple [.int c, .int d]) = if a = c then decide (b < d) else decide (a < c) := by
  show lexLt itemOrd [.inl 1, .inl a, .inl 1, .inl b, .inl 0] [.inl 1, .inl c, .inl 1, .inl d, .inl 0] = _
  rw [lex_self (O := itemOrd)]
  by_cases h : a = c
  · subst h
    rw [if_pos rfl, lex_self (O := itemOrd), lex_self (O := itemOrd)]
    by_cases h2 : b = d
    · subst h2
      rw [lex_self (O := itemOrd), lex_self (O := itemOrd), decide_eq_false (Int.lt_irrefl b)]
      rfl
    · rw [lex_diff (O := itemOrd) (fun z => h2 (Sum.inl.inj z))]
      rfl
  · rw [if_neg h, lex_diff (O := itemOrd) (fun z => h (Sum.inl.inj z))]
    rfl
theorem alike_pairs (a b c d : Int) : PySem.W.alike (.tuple [.int a, .int b]) (.tuple [.int c, .int d]) = true := by
  simp [PySem.W.alike, PySem.W.alikeAll]
theorem depth_pair (a b : Int) : (PyData.tuple [.int a, .int b]).depth ≤ 64 := by
  simp [PyData.depth, PyData.depthAll]
theorem eqv_pairs (a b c d : Int) : PyData.eqv (.tuple [.int a, .int b]) (.tuple [.int c, .int d]) = (decide (a = c) && decide (b = d)) := by
  simp [PyData.eqv, PyData.eqvAll]
  rfl
/-! ### numbers in the heap -/
def NumAt (K : PySem.W.Frag) (H : Hp) (v : V) (n : Int × Int) : Prop := ∃ a, v = .ref a ∧ SqT K H a [.int n.1, .int n.2]
theorem numAt_ex {K : PySem.W.Frag} {H H' : Hp} {v : V} {n : Int × Int} (e : Ex H H') (h : NumAt K H v n) : NumAt K H' v n := by
  obtain ⟨a, rfl, h⟩ := h
  exact ⟨a, rfl, ex_t e h⟩
theorem numAt_of {K : PySem.W.Frag} {H : Hp} {p : Addr} {m e : Int} (h : H p = some (.tup [.int m, .int e])) : NumAt K H (.ref p) (m, e) := ⟨p, rfl, st_of h⟩
/-- a good number within bounds -/
structure Gn (K : PySem.W.Frag) (H : Hp) (v : V) (n : Int × Int) (B : Nat) : Prop where
  at_ : NumAt K H v n
  nb : isNumB n.1 n.2 = true
  bd : Bd n B
theorem Gn.ex {K : PySem.W.Frag} {H H' : Hp} {v : V} {n : Int × Int} {B : Nat} (g : Gn K H v n B) (e : Ex H H') : Gn K H' v n B := ⟨numAt_ex e g.at_, g.nb, g.bd⟩
theorem Gn.mono {K : PySem.W.Frag} {H : Hp} {v : V} {n : Int × Int} {B C : Nat} (g : Gn K H v n B) (l : B ≤ C) : Gn K H v n C := ⟨g.at_, g.nb, g.bd.mono l⟩
theorem Gn.num {K : PySem.W.Frag} {H : Hp} {v : V} {n : Int × Int} {B : Nat} (g : Gn K H v n B) : NumIs K H v true := by
  obtain ⟨a, rfl, h⟩ := g.at_
  have := NumIs.num h
  rw [g.nb] at this
  exact this
def LIM : Nat := 20000000
/-- a new pair -/
def NewP (H : Hp) (Q : VK) (n : Int × Int) : Prop := ∀ H' p, Ex H H' → H p = none → H' p = some (.tup [.int n.1, .int n.2]) → Q (.ref p) H'
def spNeed (K : PySem.W.Frag) : Sp := fun vs H Q _ => ∃ v, vs = [v] ∧ NumIs K H v true ∧ ∀ H', Ex H H' → Q .non H'
def spSign : Sp := fun vs H Q _ => ∃ x : Int, vs = [.int x] ∧ Q (.int (sgn x)) H
def spNeg (K : PySem.W.Frag) : Sp := fun vs H Q _ => ∃ v n, vs = [v] ∧ NumAt K H v n ∧ NewP H Q (pneg n)
def spSize (K : PySem.W.Frag) : Sp := fun vs H Q _ => ∃ v n, vs = [v] ∧ NumAt K H v n ∧ Q (.int (psize n)) H
def spFloor (K : PySem.W.Frag) : Sp := fun vs H Q _ => ∃ v n E, vs = [v, .int E] ∧ NumAt K H v n ∧ E ≤ n.2 ∧ Bd n LIM ∧ E.natAbs ≤ LIM ∧ Q (.int (at_ n E)) H
def spRank (K : PySem.W.Frag) : Sp := fun vs H Q _ => ∃ v n, vs = [v] ∧ NumAt K H v n ∧ NewP H Q (prank n)
def spNeed2 (K : PySem.W.Frag) : Sp := fun vs H Q _ => ∃ u v, vs = [u, v] ∧ NumIs K H u true ∧ NumIs K H v true ∧ ∀ H', Ex H H' → Q .non H'
/-- a pair, new or handed in -/
def GotP (K : PySem.W.Frag) (H : Hp) (Q : VK) (n : Int × Int) : Prop := ∀ H' v, Ex H H' → NumAt K H' v n → Q v H'
def spTwo (K : PySem.W.Frag) (g : Int × Int → Int × Int → Int × Int) : Sp := fun vs H Q _ => ∃ u v a b, vs = [u, v] ∧ Gn K H u a LIM ∧ Gn K H v b LIM ∧ GotP K H Q (g a b)
def spLes (K : PySem.W.Frag) : Sp := fun vs H Q _ => ∃ u v a b, vs = [u, v] ∧ Gn K H u a LIM ∧ Gn K H v b LIM ∧ ((pord a b ≤ 0 → ∀ H', Ex H H' → Q u H') ∧ (0 < pord a b → ∀ H', Ex H H' → Q v H'))
def spGre (K : PySem.W.Frag) : Sp := fun vs H Q _ => ∃ u v a b, vs = [u, v] ∧ Gn K H u a LIM ∧ Gn K H v b LIM ∧ ((0 ≤ pord a b → ∀ H', Ex H H' → Q u H') ∧ (pord a b < 0 → ∀ H', Ex H H' → Q v H'))
def spOrd (K : PySem.W.Frag) : Sp := fun vs H Q _ => ∃ u v a b, vs = [u, v] ∧ Gn K H u a LIM ∧ Gn K H v b LIM ∧ ∀ H', Ex H H' → Q (.int (pord a b)) H'
/-! ### evaluation to something -/
section
variable {K : PySem.W.Frag} {σ : L2.St} {H H' : Hp} {ta tb tc te : TE}
def Mono (P : Hp → V → Prop) : Prop := ∀ H H' v, Ex H H' → P H v → P H' v
def EvP (P : Hp → V → Prop) (te : TE) (σ : L2.St) (H : Hp) : Prop := ∀ H1, Ex H H1 → ∀ Q : VK, (∀ v H2, Ex H1 H2 → P H2 v → Q v H2) → te σ H1 Q
theorem EvP.mono {P : Hp → V → Prop} (h : EvP P te σ H) (e : Ex H H') : EvP P te σ H' := fun H1 e1 Q q => h H1 (e.trans e1) Q q
theorem evp_of {P : Hp → V → Prop} {v : V} (h : Ev te σ H v) (m : Mono P) (hv : P H v) : EvP P te σ H := fun H1 e Q q => h H1 e Q fun H2 e2 => q v H2 e2 (m _ _ _ (e.trans e2) hv)
theorem evp_tup2 {P1 P2 : Hp → V → Prop} (m1 : Mono P1) (m2 : Mono P2) (h1 : EvP P1 ta σ H) (h2 : EvP P2 tb σ H) :
    EvP (fun H v => ∃ p x y, v = .ref p ∧ H p = some (.tup [x, y]) ∧ P1 H x ∧ P2 H y) (tTup (tCons ta (tCons tb tNil))) σ H := fun H1 e Q q =>
  h1 H1 e _ fun x H2 e2 p1 => h2 H2 (e.trans e2) _ fun y H3 e3 p2 => ⟨by show 2 ≤ sizeLine; decide, fun p hp => q (.ref p) _ ((e2.trans e3).trans (Ex.new hp)) ⟨p, x, y, rfl, upd_same, m1 _ _ _ (e3.trans (Ex.new hp)) p1, m2 _ _ _ (Ex.new hp) p2⟩⟩
theorem evp_tup3 {P1 P2 P3 : Hp → V → Prop} (m1 : Mono P1) (m2 : Mono P2) (m3 : Mono P3) (h1 : EvP P1 ta σ H) (h2 : EvP P2 tb σ H) (h3 : EvP P3 tc σ H) :
    EvP (fun H v => ∃ p x y z, v = .ref p ∧ H p = some (.tup [x, y, z]) ∧ P1 H x ∧ P2 H y ∧ P3 H z) (tTup (tCons ta (tCons tb (tCons tc tNil)))) σ H := fun H1 e Q q =>
  h1 H1 e _ fun x H2 e2 p1 => h2 H2 (e.trans e2) _ fun y H3 e3 p2 => h3 H3 ((e.trans e2).trans e3) _ fun z H4 e4 p3 => ⟨by show 3 ≤ sizeLine; decide, fun p hp => q (.ref p) _ (((e2.trans e3).trans e4).trans (Ex.new hp)) ⟨p, x, y, z, rfl, upd_same, m1 _ _ _ ((e3.trans e4).trans (Ex.new hp)) p1, m2 _ _ _ (e4.trans (Ex.new hp)) p2, m3 _ _ _ (Ex.new hp) p3⟩⟩
def EvAll (P : Hp → V → Prop) (ta : TA) (σ : L2.St) (H : Hp) (n : Nat) : Prop := ∀ H1, Ex H H1 → ∀ Q : List V → Hp → Prop, (∀ vs H2, Ex H1 H2 → vs.length = n → (∀ v ∈ vs, P H2 v) → Q vs H2) → ta σ H1 Q
theorem eva_nil {P : Hp → V → Prop} : EvAll P tNil σ H 0 := fun H1 _ _ q => q [] H1 (Ex.refl H1) rfl (fun _ h => by cases h)
theorem eva_cons {P : Hp → V → Prop} {tr : TA} {n : Nat} (m : Mono P) (h : EvP P ta σ H) (hr : EvAll P tr σ H n) : EvAll P (tCons ta tr) σ H (n + 1) := fun H1 e Q q =>
  h H1 e _ fun v H2 e2 p => hr H2 (e.trans e2) _ fun vs H3 e3 hl hv => q (v :: vs) H3 (e2.trans e3) (congrArg Nat.succ hl) fun x hx => by
    rcases List.mem_cons.mp hx with z | z
    · rw [z]
      exact m _ _ _ e3 p
    · exact hv x z
/-- a new list, all of P -/
def EvLP (P : Hp → V → Prop) (te : TE) (σ : L2.St) (H : Hp) (n : Nat) : Prop := ∀ H1, Ex H H1 → ∀ Q : VK, (∀ p vs H2, Ex H1 H2 → H1 p = none → H2 p = some (.lst vs) → vs.length = n → (∀ v ∈ vs, P H2 v) → Q (.ref p) H2) → te σ H1 Q
theorem elp_lst {P : Hp → V → Prop} {tr : TA} {n : Nat} (m : Mono P) (h : EvAll P tr σ H n) (hn : n ≤ 100000 := by decide) : EvLP P (tLst tr) σ H n := fun H1 e Q q =>
  h H1 e _ fun vs H2 e2 hl hv => ⟨sz_of (by rw [hl]; exact hn), fun p hp => q p vs _ (e2.trans (Ex.new hp)) (fresh_back e2 hp) upd_same hl fun v hx => m _ _ _ (Ex.new hp) (hv v hx)⟩
def LpAt (P : Hp → V → Prop) (H : Hp) (v : V) (n : Nat) : Prop := ∃ p vs, v = .ref p ∧ H p = some (.lst vs) ∧ vs.length = n ∧ ∀ x ∈ vs, P H x
theorem elp_cat {P : Hp → V → Prop} {v : V} {i n k : Nat} (m : Mono P) (hv : σ[i]? = some (some v)) (hl : LpAt P H v n) (h : EvLP P tb σ H k) (hn : n + k ≤ 100000 := by decide) : EvLP P (tOp rCat (tVar i) tb) σ H (n + k) := fun H1 e Q q => by
  obtain ⟨a, us, rfl, h1, h2, h3⟩ := hl
  refine ⟨.ref a, hv, h H1 e _ fun p vs H2 e2 hp hvs hlen hall => ?_⟩
  refine ⟨a, p, us, vs, rfl, rfl, (e.trans e2) _ _ h1, hvs, sz_of (by rw [h2, hlen]; exact hn), fun r hr => ?_⟩
  refine q r (us ++ vs) _ (e2.trans (Ex.new hr)) (fresh_back e2 hr) upd_same (by rw [List.length_append, h2, hlen]) fun x hx => ?_
  rcases List.mem_append.mp hx with z | z
  · exact m _ _ _ ((e.trans e2).trans (Ex.new hr)) (h3 x z)
  · exact m _ _ _ (Ex.new hr) (hall x z)
theorem q_asgLP {P : Hp → V → Prop} {tz : TS} {D : Ends} {i n : Nat} (h : EvLP P te σ H n) (k : ∀ v H1, Ex H H1 → LpAt P H1 v n → tz D (σ.set i (some v)) H1) : tSeq (tAsg te (gName i)) tz D σ H :=
  h H (Ex.refl H) _ fun p vs H2 e2 _ hv hl hd => k (.ref p) H2 e2 ⟨p, vs, rfl, hv, hl, hd⟩
theorem q_asgP {P : Hp → V → Prop} {tz : TS} {D : Ends} {i : Nat} (h : EvP P te σ H) (k : ∀ v H1, Ex H H1 → P H1 v → tz D (σ.set i (some v)) H1) : tSeq (tAsg te (gName i)) tz D σ H :=
  h H (Ex.refl H) _ fun v H2 e2 p => k v H2 e2 p
theorem s_forLP {P : Hp → V → Prop} {n : Nat} {tl : TE} {g : TG} {tu : TS} {D : Ends} (m : Mono P) (h : EvLP P tl σ H n) (Iv : L2.St → Prop) (h0 : Iv σ)
    (hs : ∀ H2 v σ' H', Ex H H2 → Ex H2 H' → Iv σ' → P H' v → g v σ' H' fun σ2 H3 => tu { D with nx := fun σ3 H4 => Iv σ3 ∧ Ex H2 H4, ct := fun σ3 H4 => Iv σ3 ∧ Ex H2 H4, bk := D.nx } σ2 H3)
    (hd : ∀ σ' H', Ex H H' → Iv σ' → D.nx σ' H') : tFor (iList K tl) g tu D σ H :=
  h H (Ex.refl H) _ fun p vs H2 e2 _ hv _ hall => ⟨p, rfl, ⟨_, sq_of hv⟩, for_list (xs := vs) (fun _ σ' H' => Iv σ' ∧ Ex H2 H') ⟨h0, Ex.refl H2⟩ (fun _ _ _ _ hp => sq_of (hp.2 _ _ hv))
    (fun i x σ' H' hx hp => hs H2 x σ' H' e2 hp.2 hp.1 (m _ _ _ hp.2 (hall x (List.mem_of_getElem? hx)))) (fun σ' H' hp => hd σ' H' (e2.trans hp.2) hp.1)⟩
theorem s_forLA {P : Hp → V → Prop} {n i : Nat} {v : V} {g : TG} {tu : TS} {D : Ends} (m : Mono P) (hv : σ[i]? = some (some v)) (h : LpAt P H v n) (Iv : L2.St → Prop) (h0 : Iv σ)
    (hs : ∀ v σ' H', Ex H H' → Iv σ' → P H' v → g v σ' H' fun σ2 H3 => tu { D with nx := fun σ3 H4 => Iv σ3 ∧ Ex H H4, ct := fun σ3 H4 => Iv σ3 ∧ Ex H H4, bk := D.nx } σ2 H3)
    (hd : ∀ σ' H', Ex H H' → Iv σ' → D.nx σ' H') : tFor (iList K (tVar i)) g tu D σ H := by
  obtain ⟨p, vs, rfl, hp, _, hall⟩ := h
  exact ⟨.ref p, hv, p, rfl, ⟨_, sq_of hp⟩, for_list (xs := vs) (fun _ σ' H' => Iv σ' ∧ Ex H H') ⟨h0, Ex.refl H⟩ (fun _ _ _ _ hq => sq_of (hq.2 _ _ hp))
    (fun i x σ' H' hx hq => hs x σ' H' hq.2 hq.1 (m _ _ _ hq.2 (hall x (List.mem_of_getElem? hx)))) (fun σ' H' hq => hd σ' H' hq.2 hq.1)⟩
theorem o_yes {Q : Bool → Hp → Prop} (h : Q true H) : tYes σ H Q := h
/-! ### numbers by evaluation -/
abbrev EvN (K : PySem.W.Frag) (te : TE) (σ : L2.St) (H : Hp) (n : Int × Int) (B : Nat) : Prop := EvP (fun H v => Gn K H v n B) te σ H
theorem gn_mono {n : Int × Int} {B : Nat} : Mono (fun H v => Gn K H v n B) := fun _ _ _ e g => g.ex e
theorem evn_var {i : Nat} {v : V} {n : Int × Int} {B : Nat} (hv : σ[i]? = some (some v)) (g : Gn K H v n B) : EvN K (tVar i) σ H n B := evp_of (ev_var hv) gn_mono g
theorem evn_new {n : Int × Int} {B : Nat} (hn : isNumB n.1 n.2 = true) (hb : Bd n B) (h : ∀ H1, Ex H H1 → ∀ Q : VK, NewP H1 Q n → te σ H1 Q) : EvN K te σ H n B := fun H1 e Q q => h H1 e Q fun H2 p e2 _ hp => q (.ref p) H2 e2 ⟨numAt_of hp, hn, hb⟩
theorem evn_two {g : Int × Int → Int × Int → Int × Int} {a b : Int × Int} {B1 B2 C : Nat} (ha : EvN K ta σ H a B1) (hb : EvN K tb σ H b B2) (l : B1 + B2 ≤ LIM) (hn : isNumB (g a b).1 (g a b).2 = true) (hC : Bd a (B1 + B2) → Bd b (B1 + B2) → Bd (g a b) C) :
    EvN K (tCall (spTwo K g) [] E0 (tCons ta (tCons tb tNil))) σ H (g a b) C := fun H1 e Q q =>
  ha H1 e _ fun u H2 e2 gu => hb H2 (e.trans e2) _ fun v H3 e3 gv => ⟨u, v, a, b, rfl, (gu.ex e3).mono (by omega), gv.mono (by omega), fun H4 w e4 hw => q w H4 ((e2.trans e3).trans e4) ⟨hw, hn, hC (gu.bd.mono (by omega)) (gv.bd.mono (by omega))⟩⟩
theorem evn_plus {a b : Int × Int} {B1 B2 : Nat} (ha : EvN K ta σ H a B1) (hb : EvN K tb σ H b B2) (l : B1 + B2 ≤ LIM := by decide) : EvN K (tCall (spTwo K padd) [] E0 (tCons ta (tCons tb tNil))) σ H (padd a b) (4 * (B1 + B2) + 1) := evn_two ha hb l (num_add a b) bd_add
theorem evn_less {a b : Int × Int} {B1 B2 : Nat} (ha : EvN K ta σ H a B1) (hb : EvN K tb σ H b B2) (l : B1 + B2 ≤ LIM := by decide) : EvN K (tCall (spTwo K psub) [] E0 (tCons ta (tCons tb tNil))) σ H (psub a b) (4 * (B1 + B2) + 1) := evn_two ha hb l (num_add a _) bd_sub
theorem evn_times {a b : Int × Int} {B1 B2 : Nat} (ha : EvN K ta σ H a B1) (hb : EvN K tb σ H b B2) (l : B1 + B2 ≤ LIM := by decide) : EvN K (tCall (spTwo K pmul) [] E0 (tCons ta (tCons tb tNil))) σ H (pmul a b) (4 * (B1 + B2)) := evn_two ha hb l (num_mul a b) bd_mul
theorem ev_ord {a b : Int × Int} {B1 B2 : Nat} (ha : EvN K ta σ H a B1) (hb : EvN K tb σ H b B2) (l : B1 + B2 ≤ LIM := by decide) : Ev (tCall (spOrd K) [] E0 (tCons ta (tCons tb tNil))) σ H (.int (pord a b)) := fun H1 e Q q =>
  ha H1 e _ fun u H2 e2 gu => hb H2 (e.trans e2) _ fun v H3 e3 gv => ⟨u, v, a, b, rfl, (gu.ex e3).mono (by omega), gv.mono (by omega), fun H4 e4 => q H4 ((e2.trans e3).trans e4)⟩
theorem evn_lit {m e : Int} {B : Nat} (ha : Ev ta σ H (.int m)) (hb : Ev tb σ H (.int e)) (hn : isNumB m e = true) (hB : Bd (m, e) B) : EvN K (tTup (tCons ta (tCons tb tNil))) σ H (m, e) B := fun H1 e1 Q q =>
  ha H1 e1 _ fun H2 e2 => hb H2 (e1.trans e2) _ fun H3 e3 => ⟨by show 2 ≤ sizeLine; decide, fun p hp => q (.ref p) _ ((e2.trans e3).trans (Ex.new hp)) ⟨numAt_of upd_same, hn, hB⟩⟩
theorem numAt_dp {v : V} {n : Int × Int} (h : NumAt K H v n) : Dp K H v (.tuple [.int n.1, .int n.2]) := by
  obtain ⟨a, rfl, h⟩ := h
  exact .tup h (.cons (.int _) (.cons (.int _) .nil))
theorem pair_shaped (m e : Int) : SeqAt.shaped (.tuple [.int m, .int e]) = true := rfl
theorem evb_ne {a b : Int × Int} {B1 B2 : Nat} (ha : EvN K ta σ H a B1) (hb : EvN K tb σ H b B2) : Ev (tOp (rNeD K) ta tb) σ H (.bl (!decide (a = b))) := fun H1 e Q q =>
  ha H1 e _ fun u H2 e2 gu => hb H2 (e.trans e2) _ fun v H3 e3 gv => by
    refine ⟨_, _, numAt_dp (gu.ex e3).at_, numAt_dp gv.at_, pair_shaped _ _, pair_shaped _ _, ?_⟩
    rw [eqv_pairs]
    have e4 : (decide (a.1 = b.1) && decide (a.2 = b.2)) = decide (a = b) := by
      rw [← Bool.decide_and]
      exact decide_eq_decide.mpr ⟨fun z => Prod.ext z.1 z.2, fun z => by rw [z]; exact ⟨rfl, rfl⟩⟩
    rw [e4]
    exact q H3 (e2.trans e3)
theorem evb_eq {a b : Int × Int} {B1 B2 : Nat} (ha : EvN K ta σ H a B1) (hb : EvN K tb σ H b B2) : Ev (tOp (rEqD K) ta tb) σ H (.bl (decide (a = b))) := fun H1 e Q q =>
  ha H1 e _ fun u H2 e2 gu => hb H2 (e.trans e2) _ fun v H3 e3 gv => by
    refine ⟨_, _, numAt_dp (gu.ex e3).at_, numAt_dp gv.at_, pair_shaped _ _, pair_shaped _ _, ?_⟩
    rw [eqv_pairs]
    have e4 : (decide (a.1 = b.1) && decide (a.2 = b.2)) = decide (a = b) := by
      rw [← Bool.decide_and]
      exact decide_eq_decide.mpr ⟨fun z => Prod.ext z.1 z.2, fun z => by rw [z]; exact ⟨rfl, rfl⟩⟩
    rw [e4]
    exact q H3 (e2.trans e3)
/-- two ways to one number are told as no difference -/
theorem evt_same {a b : Int × Int} {B1 B2 : Nat} (ha : EvN K ta σ H a B1) (hb : EvN K tb σ H b B2) (h : a = b) : EvT (tTest (tOp (rNeD K) ta tb)) σ H false := by
  have := et_test (evb_ne ha hb)
  rw [decide_eq_true h] at this
  exact this
theorem q_pass {t : TT} {tu tz : TS} {D : Ends} (h : EvT t σ H false) (k : ∀ H1, Ex H H1 → tz D σ H1) : tSeq (tIfS t tu tNext) tz D σ H := q_when h (fun z => by cases z) (fun _ => k)
/-! ### what is kept where one list changes -/
def Keeps (p : Addr) (H H' : Hp) : Prop := ∀ b o, H b = some o → b ≠ p → H' b = some o
theorem sqT_keep {p a : Addr} {xs ys : List V} (h : SqT K H a xs) (hp : H p = some (.lst ys)) (k : Keeps p H H') : SqT K H' a xs := by
  rcases h with (h | ⟨o, h⟩) | h
  · exact .inl (.inl (k _ _ h (fun z => by rw [z, hp] at h; cases h)))
  · exact .inl (.inr ⟨o, k _ _ h (fun z => by rw [z, hp] at h; cases h)⟩)
  · exact .inr h
theorem gn_keep {p : Addr} {v : V} {n : Int × Int} {B : Nat} {ys : List V} (g : Gn K H v n B) (hp : H p = some (.lst ys)) (k : Keeps p H H') : Gn K H' v n B := by
  obtain ⟨⟨a, rfl, h⟩, h2, h3⟩ := g
  exact ⟨⟨a, rfl, sqT_keep h hp k⟩, h2, h3⟩
theorem keeps_upd {p : Addr} {o : HO} : Keeps p H (upd H p o) := fun b o' h hb => by
  rw [upd_ne hb]
  exact h
theorem Keeps.trans {p : Addr} {H1 : Hp} (a : Keeps p H H') (b : Keeps p H' H1) : Keeps p H H1 := fun c o h hc => b c o (a c o h hc) hc
theorem keeps_ex {p : Addr} (e : Ex H H') : Keeps p H H' := fun b o h _ => e b o h
end
end Onc

namespace Onc
open PySem PySem.Spec PyProof.Rows L2 Evl
/-! ### how sums, products and orders go together -/
section
variable {a b c : Int × Int} {E : Int}
theorem padd_comm (a b : Int × Int) : padd a b = padd b a := by
  rw [padd_at (E := min a.2 b.2) (by omega) (by omega), padd_at (a := b) (b := a) (E := min a.2 b.2) (by omega) (by omega), Int.add_comm]
theorem pmul_comm (a b : Int × Int) : pmul a b = pmul b a := by
  unfold pmul
  rw [Int.mul_comm, Int.add_comm]
theorem at_add (ha : E ≤ a.2) (hb : E ≤ b.2) : at_ (padd a b) E = at_ a E + at_ b E := by
  rw [padd_at ha hb, at_same]
theorem at_sub (ha : E ≤ a.2) (hb : E ≤ b.2) : at_ (psub a b) E = at_ a E - at_ b E := by
  rw [psub_at ha hb, at_same]
theorem le_add (ha : E ≤ a.2) (hb : E ≤ b.2) (h0 : E ≤ 0) : E ≤ (padd a b).2 := by
  rw [padd_at ha hb]
  exact nrm_le h0
theorem le_sub (ha : E ≤ a.2) (hb : E ≤ b.2) (h0 : E ≤ 0) : E ≤ (psub a b).2 := by
  rw [psub_at ha hb]
  exact nrm_le h0
theorem at_mul {F : Int} (ha : E ≤ a.2) (hb : F ≤ b.2) : at_ (pmul a b) (E + F) = at_ a E * at_ b F := by
  rw [pmul_at ha hb, at_same]
theorem le_mul {F : Int} (ha : E ≤ a.2) (hb : F ≤ b.2) (h0 : E + F ≤ 0) : E + F ≤ (pmul a b).2 := by
  rw [pmul_at ha hb]
  exact nrm_le h0
/-- a power below all -/
theorem low3 (a b c : Int × Int) : ∃ E : Int, E ≤ a.2 ∧ E ≤ b.2 ∧ E ≤ c.2 ∧ E ≤ 0 := ⟨min (min a.2 b.2) (min c.2 0), by omega, by omega, by omega, by omega⟩
theorem padd_assoc (a b c : Int × Int) : padd (padd a b) c = padd a (padd b c) := by
  obtain ⟨E, ha, hb, hc, h0⟩ := low3 a b c
  rw [padd_at (le_add ha hb h0) hc, padd_at (b := padd b c) ha (le_add hb hc h0), at_add ha hb, at_add hb hc, Int.add_assoc]
theorem pmul_assoc (a b c : Int × Int) : pmul (pmul a b) c = pmul a (pmul b c) := by
  obtain ⟨E, ha, hb, hc, h0⟩ := low3 a b c
  rw [pmul_at (E := E + E) (F := E) (le_mul ha hb (by omega)) hc, pmul_at (b := pmul b c) (E := E) (F := E + E) ha (le_mul hb hc (by omega)), at_mul ha hb, at_mul hb hc, Int.mul_assoc, Int.add_assoc]
theorem pmul_add (a b c : Int × Int) : pmul a (padd b c) = padd (pmul a b) (pmul a c) := by
  obtain ⟨E, ha, hb, hc, h0⟩ := low3 a b c
  rw [pmul_at (E := E) (F := E) ha (le_add hb hc h0), padd_at (E := E + E) (le_mul ha hb (by omega)) (le_mul ha hc (by omega)), at_add hb hc, at_mul ha hb, at_mul ha hc, Int.mul_add]
theorem sub_add (hn : isNumB a.1 a.2 = true) : psub (padd a b) b = a := by
  obtain ⟨E, ha, hb, hc, h0⟩ := low3 a b b
  rw [psub_at (le_add ha hb h0) hb, at_add ha hb, Int.add_sub_cancel, num_at hn ha]
theorem add_sub (hn : isNumB a.1 a.2 = true) : padd (psub a b) b = a := by
  obtain ⟨E, ha, hb, hc, h0⟩ := low3 a b b
  rw [padd_at (le_sub ha hb h0) hb, at_sub ha hb, Int.sub_add_cancel, num_at hn ha]
theorem sub_self (a : Int × Int) : psub a a = (0, 0) := by
  rw [psub_at (E := a.2) (by omega) (by omega), Int.sub_self]
  rfl
theorem mul_one (hn : isNumB a.1 a.2 = true) : pmul a (1, 0) = a := by
  show nrm (a.1 * 1) (a.2 + 0) = a
  rw [Int.mul_one, Int.add_zero, nrm_self hn]
theorem add_zero (hn : isNumB a.1 a.2 = true) : padd a (0, 0) = a := by
  obtain ⟨E, ha, _, _, h0⟩ := low3 a a a
  rw [padd_at (b := (0, 0)) ha h0]
  have e : at_ (0, 0) E = 0 := Int.zero_mul _
  rw [e, Int.add_zero, num_at hn ha]
theorem mul_zero (a : Int × Int) : pmul a (0, 0) = (0, 0) := by
  show nrm (a.1 * 0) (a.2 + 0) = (0, 0)
  rw [Int.mul_zero]
  rfl
theorem zero_sub (a : Int × Int) : psub (0, 0) a = pmul a (-1, 0) := by
  obtain ⟨E, ha, _, _, h0⟩ := low3 a a a
  rw [psub_at (a := (0, 0)) h0 ha]
  have e : at_ (0, 0) E = 0 := Int.zero_mul _
  rw [e, pmul_at (b := (-1, 0)) (E := E) (F := 0) ha (Int.le_refl 0), Int.add_zero]
  have e2 : at_ (-1, 0) 0 = -1 := rfl
  rw [e2]
  congr 1
  omega
theorem ord_add (a b c : Int × Int) : pord (padd a c) (padd b c) = pord a b := by
  obtain ⟨E, ha, hb, hc, h0⟩ := low3 a b c
  rw [pord_at (le_add ha hc h0) (le_add hb hc h0), pord_at ha hb, at_add ha hc, at_add hb hc]
  congr 1
  omega
theorem sgn_prod (x y : Int) : sgn (x * y) = sgn x * sgn y := by
  rcases Int.lt_trichotomy x 0 with h | h | h <;> rcases Int.lt_trichotomy y 0 with g | g | g
  · rw [sgn_neg h, sgn_neg g, sgn_pos (Int.mul_pos_of_neg_of_neg h g)]
    rfl
  · subst g
    rw [Int.mul_zero, sgn_zero, Int.mul_zero]
  · rw [sgn_neg h, sgn_pos g, sgn_neg (Int.mul_neg_of_neg_of_pos h g)]
    rfl
  · subst h
    rw [Int.zero_mul, sgn_zero, Int.zero_mul]
  · subst h
    rw [Int.zero_mul, sgn_zero, Int.zero_mul]
  · subst h
    rw [Int.zero_mul, sgn_zero, Int.zero_mul]
  · rw [sgn_pos h, sgn_neg g, sgn_neg (Int.mul_neg_of_pos_of_neg h g)]
    rfl
  · subst g
    rw [Int.mul_zero, sgn_zero, Int.mul_zero]
  · rw [sgn_pos h, sgn_pos g, sgn_pos (Int.mul_pos h g)]
    rfl
theorem ord_mul (a b c : Int × Int) : pord (pmul a c) (pmul b c) = pord a b * sgn c.1 := by
  obtain ⟨E, ha, hb, hc, h0⟩ := low3 a b c
  rw [pord_at (E := E + E) (le_mul ha hc (by omega)) (le_mul hb hc (by omega)), pord_at ha hb, at_mul ha hc, at_mul hb hc, ← Int.sub_mul, sgn_prod, at_sgn c]
theorem ord_zero (hn : isNumB a.1 a.2 = true) (hm : isNumB b.1 b.2 = true) : pord a b = 0 ↔ a = b := by
  obtain ⟨E, ha, hb, _, h0⟩ := low3 a b b
  constructor
  · intro h
    rw [pord_at ha hb] at h
    have := sgn_of_zero h
    rw [← num_at hn ha, ← num_at hm hb, show at_ a E = at_ b E by omega]
  · intro h
    subst h
    unfold pord
    rw [Int.sub_self]
    rfl
theorem sgn_le {x : Int} (h : sgn x ≤ 0) : x ≤ 0 := by
  rcases Int.lt_trichotomy x 0 with q | q | q
  · omega
  · omega
  · rw [sgn_pos q] at h
    omega
theorem ord_trans (h1 : pord a b ≤ 0) (h2 : pord b c ≤ 0) : ¬ 0 < pord a c := by
  obtain ⟨E, ha, hb, hc, h0⟩ := low3 a b c
  rw [pord_at ha hb] at h1
  rw [pord_at hb hc] at h2
  rw [pord_at ha hc]
  have h1 := sgn_le h1
  have h2 := sgn_le h2
  intro h
  have h3 : ¬ 0 < at_ a E - at_ c E := by omega
  rcases sgn_cases (at_ a E - at_ c E) with q | q | q
  · exact h3 (sgn_of_pos q)
  · omega
  · omega
theorem pord_range (a b : Int × Int) : -1 ≤ pord a b ∧ pord a b ≤ 1 := by
  unfold pord
  rcases sgn_cases (at_ a (min a.2 b.2) - at_ b (min a.2 b.2)) with z | z | z <;> rw [z] <;> decide
theorem b2i_sgn (x : Int) : (if decide (0 < x) = true then (1 : Int) else 0) - (if decide (x < 0) = true then 1 else 0) = sgn x := by
  rcases Int.lt_trichotomy x 0 with q | q | q
  · rw [sgn_neg q, decide_eq_true q, decide_eq_false (by omega)]
    rfl
  · subst q
    rfl
  · rw [sgn_pos q, decide_eq_true q, decide_eq_false (by omega)]
    rfl
end
theorem num_zero {n : Int × Int} (h : isNumB n.1 n.2 = true) (h0 : n.1 = 0) : n = (0, 0) := by
  unfold isNumB at h
  rw [h0] at h
  rcases Bool.or_eq_true_iff.mp h with q | q
  · exact absurd (of_decide_eq_true q) (by decide)
  · exact Prod.ext h0 (of_decide_eq_true (Bool.and_eq_true_iff.mp q).2)
theorem num_odd {n : Int × Int} (h : isNumB n.1 n.2 = true) (h0 : n.1 ≠ 0) : n.1 % 2 = 1 := by
  unfold isNumB at h
  rcases Bool.or_eq_true_iff.mp h with q | q
  · exact of_decide_eq_true q
  · exact absurd (of_decide_eq_true (Bool.and_eq_true_iff.mp q).1) h0
theorem odd_num {m e : Int} (h : m % 2 = 1) : isNumB m e = true := by
  unfold isNumB
  rw [decide_eq_true h]
  rfl
theorem padd_zero_r {a b : Int × Int} (ha : isNumB a.1 a.2 = true) (h : b = (0, 0)) : padd a b = a := by
  subst h
  exact add_zero ha
/-- the sum at the lesser power, where the other one is even there -/
theorem padd_gt {a b : Int × Int} (hb : isNumB b.1 b.2 = true) (h0 : b.1 ≠ 0) (h : b.2 < a.2) : padd a b = (a.1 * 2 ^ (a.2 - b.2).toNat + b.1, b.2) := by
  rw [padd_at (E := b.2) (by omega) (by omega)]
  have e1 : at_ b b.2 = b.1 := by
    unfold at_
    rw [show (b.2 - b.2).toNat = 0 by omega, Int.pow_zero, Int.mul_one]
  rw [e1]
  refine nrm_self (odd_num ?_)
  have o := num_odd hb h0
  show (a.1 * 2 ^ (a.2 - b.2).toNat + b.1) % 2 = 1
  obtain ⟨k, hk⟩ : ∃ k, (a.2 - b.2).toNat = k + 1 := ⟨(a.2 - b.2).toNat - 1, by omega⟩
  rw [hk, Int.pow_succ, ← Int.mul_assoc]
  generalize a.1 * 2 ^ k = z
  omega
end Onc

namespace Onc
open PySem PySem.Spec PyProof.Rows L2 Evl
/-! ### lists of numbers -/
section
variable {K : PySem.W.Frag} {σ : L2.St} {H H' : Hp} {ta tb tc te : TE}
def GnL (K : PySem.W.Frag) (H : Hp) (B : Nat) : List V → List (Int × Int) → Prop
  | [], [] => True
  | v :: vs, n :: ns => Gn K H v n B ∧ GnL K H B vs ns
  | _, _ => False
theorem gnL_ex {B : Nat} (e : Ex H H') : ∀ {vs : List V} {ns : List (Int × Int)}, GnL K H B vs ns → GnL K H' B vs ns
  | [], [], _ => trivial
  | _ :: _, _ :: _, h => ⟨h.1.ex e, gnL_ex e h.2⟩
theorem gnL_len {B : Nat} : ∀ {vs : List V} {ns : List (Int × Int)}, GnL K H B vs ns → vs.length = ns.length
  | [], [], _ => rfl
  | _ :: _, _ :: _, h => congrArg Nat.succ (gnL_len h.2)
theorem gnL_keep {B : Nat} {p : Addr} {ys : List V} (hp : H p = some (.lst ys)) (k : Keeps p H H') : ∀ {vs : List V} {ns : List (Int × Int)}, GnL K H B vs ns → GnL K H' B vs ns
  | [], [], _ => trivial
  | _ :: _, _ :: _, h => ⟨gn_keep h.1 hp k, gnL_keep hp k h.2⟩
theorem gnL_app {B : Nat} : ∀ {vs ws : List V} {ns ms : List (Int × Int)}, GnL K H B vs ns → GnL K H B ws ms → GnL K H B (vs ++ ws) (ns ++ ms)
  | [], _, [], _, _, h => h
  | _ :: _, _, _ :: _, _, h1, h => ⟨h1.1, gnL_app h1.2 h⟩
theorem gnL_mem {B : Nat} : ∀ {vs : List V} {ns : List (Int × Int)}, GnL K H B vs ns → ∀ {i : Nat} {v : V}, vs[i]? = some v → ∃ n, Gn K H v n B
  | [], [], _, i, v, h => by simp at h
  | x :: _, n :: _, g, 0, v, h => by
    have e : x = v := Option.some.inj h
    subst e
    exact ⟨n, g.1⟩
  | _ :: _, _ :: _, g, i + 1, v, h => gnL_mem g.2 (i := i) h
def pairD (n : Int × Int) : PyData := .tuple [.int n.1, .int n.2]
theorem gnL_dp {B : Nat} : ∀ {vs : List V} {ns : List (Int × Int)}, GnL K H B vs ns → DpAll K H vs (ns.map pairD)
  | [], [], _ => .nil
  | _ :: _, _ :: _, h => .cons (numAt_dp h.1.at_) (gnL_dp h.2)
theorem lay_pairs : ∀ ns : List (Int × Int), PyData.canLayAll0 (ns.map pairD) = true
  | [] => rfl
  | n :: ns => by
    show (PyData.canLay0 (pairD n) && PyData.canLayAll0 (ns.map pairD)) = true
    rw [lay_pairs ns]
    rfl
theorem dep_pairs : ∀ ns : List (Int × Int), PyData.depthAll (ns.map pairD) ≤ 1
  | [] => by simp [PyData.depthAll]
  | n :: ns => by
    have h := dep_pairs ns
    have h2 : PyData.depth (pairD n) = 1 := by simp [pairD, PyData.depth, PyData.depthAll]
    have e : PyData.depthAll ((n :: ns).map pairD) = max (PyData.depth (pairD n)) (PyData.depthAll (ns.map pairD)) := by rw [List.map_cons, PyData.depthAll]
    rw [e, h2]
    omega
theorem list_lay (ns : List (Int × Int)) : PyData.canLay0 (.list (ns.map pairD)) = true := by
  rw [PyData.canLay0]
  exact lay_pairs ns
theorem list_shaped (ns : List (Int × Int)) : SeqAt.shaped (.list (ns.map pairD)) = true := by
  unfold SeqAt.shaped
  rw [list_lay ns, PyData.depth]
  have := dep_pairs ns
  rw [decide_eq_true (by omega)]
  rfl
/-- a list of these numbers -/
def LnAt (K : PySem.W.Frag) (H : Hp) (v : V) (ns : List (Int × Int)) (B : Nat) : Prop := ∃ p vs, v = .ref p ∧ H p = some (.lst vs) ∧ GnL K H B vs ns
theorem lnAt_ex {v : V} {ns : List (Int × Int)} {B : Nat} (e : Ex H H') (h : LnAt K H v ns B) : LnAt K H' v ns B := by
  obtain ⟨p, vs, e1, h1, h2⟩ := h
  exact ⟨p, vs, e1, e _ _ h1, gnL_ex e h2⟩
theorem evt_lists {u v : V} {i j : Nat} {ns : List (Int × Int)} {B C : Nat} (hu : σ[i]? = some (some u)) (hv : σ[j]? = some (some v)) (h1 : LnAt K H u ns B) (h2 : LnAt K H v ns C) : EvT (tTest (tOp (rNeD K) (tVar i) (tVar j))) σ H false := fun H1 e Q q => by
  obtain ⟨p, vs, rfl, hp, gp⟩ := lnAt_ex e h1
  obtain ⟨r, ws, rfl, hr, gr⟩ := lnAt_ex e h2
  refine ⟨.ref p, hu, .ref r, hv, .list (ns.map pairD), .list (ns.map pairD), .lst (sq_of hp) (gnL_dp gp), .lst (sq_of hr) (gnL_dp gr), list_shaped ns, list_shaped ns, false, ?_, q H1 (Ex.refl H1)⟩
  rw [SeqAt.eqv_refl _ (list_lay ns)]
  rfl
def EvNs (K : PySem.W.Frag) (ta : TA) (σ : L2.St) (H : Hp) (ns : List (Int × Int)) (B : Nat) : Prop := ∀ H1, Ex H H1 → ∀ Q : List V → Hp → Prop, (∀ vs H2, Ex H1 H2 → GnL K H2 B vs ns → Q vs H2) → ta σ H1 Q
theorem evns_nil {B : Nat} : EvNs K tNil σ H [] B := fun H1 _ _ q => q [] H1 (Ex.refl H1) trivial
theorem evns_cons {tr : TA} {n : Int × Int} {ns : List (Int × Int)} {B C : Nat} (h : EvN K ta σ H n C) (hr : EvNs K tr σ H ns B) (l : C ≤ B := by decide) : EvNs K (tCons ta tr) σ H (n :: ns) B := fun H1 e Q q =>
  h H1 e _ fun v H2 e2 g => hr H2 (e.trans e2) _ fun vs H3 e3 hv => q (v :: vs) H3 (e2.trans e3) ⟨(g.ex e3).mono l, hv⟩
theorem EvNs.mono {ta : TA} {ns : List (Int × Int)} {B : Nat} (h : EvNs K ta σ H ns B) (e : Ex H H') : EvNs K ta σ H' ns B := fun H1 e1 Q q => h H1 (e.trans e1) Q q
theorem q_asgLN {tr : TA} {ns : List (Int × Int)} {B i : Nat} {tz : TS} {D : Ends} (h : EvNs K tr σ H ns B) (hl : ns.length ≤ 1000) (k : ∀ p vs H1, Ex H H1 → H p = none → H1 p = some (.lst vs) → GnL K H1 B vs ns → tz D (σ.set i (some (.ref p))) H1) : tSeq (tAsg (tLst tr) (gName i)) tz D σ H :=
  h H (Ex.refl H) _ fun vs H2 e2 hv => ⟨sz_of (by rw [gnL_len hv]; omega), fun p hp => k p vs _ (e2.trans (Ex.new hp)) (fresh_back e2 hp) upd_same (gnL_ex (Ex.new hp) hv)⟩
theorem q_asgLNcat {tr : TA} {ns ms : List (Int × Int)} {B i j : Nat} {v : V} {tz : TS} {D : Ends} (hv : σ[j]? = some (some v)) (hn : LnAt K H v ns B) (h : EvNs K tr σ H ms B) (hl : ns.length + ms.length ≤ 1000) (k : ∀ w H1, Ex H H1 → LnAt K H1 w (ns ++ ms) B → tz D (σ.set i (some w)) H1) : tSeq (tAsg (tOp rCat (tVar j) (tLst tr)) (gName i)) tz D σ H := by
  obtain ⟨a, us, rfl, h1, h2⟩ := hn
  refine ⟨.ref a, hv, h H (Ex.refl H) _ fun vs H2 e2 hvs => ⟨sz_of (by rw [gnL_len hvs]; omega), fun p hp => ?_⟩⟩
  have ap : a ≠ p := ne_of_none (e2 _ _ h1) hp
  refine ⟨a, p, us, vs, rfl, rfl, by rw [upd_ne ap]; exact e2 _ _ h1, upd_same, sz_of (by rw [gnL_len h2, gnL_len hvs]; omega), fun r hr => ?_⟩
  have e3 := (e2.trans (Ex.new (o := .lst vs) hp)).trans (Ex.new (o := .lst (us ++ vs)) hr)
  exact k (.ref r) _ e3 ⟨r, us ++ vs, rfl, upd_same, gnL_app (gnL_ex e3 h2) (gnL_ex ((Ex.new hp).trans (Ex.new hr)) hvs)⟩
/-! ### by names -/
theorem evn_kw {g : Int × Int → Int × Int → Int × Int} {a b : Int × Int} {B1 B2 C : Nat} (ha : EvN K ta σ H a B1) (hb : EvN K tb σ H b B2) (l : B1 + B2 ≤ LIM) (hn : isNumB (g a b).1 (g a b).2 = true) (hC : Bd a (B1 + B2) → Bd b (B1 + B2) → Bd (g a b) C) :
    EvN K (tCallN 0 2 (spTwo K g) (fun _ zs => zs.reverse) E0 tNil (tCons tb (tCons ta tNil))) σ H (g a b) C := fun H1 e Q q =>
  hb H1 e _ fun v H2 e2 gv => ha H2 (e.trans e2) _ fun u H3 e3 gu => ⟨rfl, rfl, u, v, a, b, rfl, gu.mono (by omega), (gv.ex e3).mono (by omega), fun H4 w e4 hw => q w H4 ((e2.trans e3).trans e4) ⟨hw, hn, hC (gu.bd.mono (by omega)) (gv.bd.mono (by omega))⟩⟩
theorem ev_ordkw {a b : Int × Int} {B1 B2 : Nat} (ha : EvN K ta σ H a B1) (hb : EvN K tb σ H b B2) (l : B1 + B2 ≤ LIM) : Ev (tCallN 0 2 (spOrd K) (fun _ zs => zs.reverse) E0 tNil (tCons tb (tCons ta tNil))) σ H (.int (pord a b)) := fun H1 e Q q =>
  hb H1 e _ fun v H2 e2 gv => ha H2 (e.trans e2) _ fun u H3 e3 gu => ⟨rfl, rfl, u, v, a, b, rfl, gu.mono (by omega), (gv.ex e3).mono (by omega), fun H4 e4 => q H4 ((e2.trans e3).trans e4)⟩
end
theorem cmp_sgn (x y : Int) : (if decide (y < x) = true then (1 : Int) else 0) - (if decide (x < y) = true then 1 else 0) = sgn (x - y) := by
  rw [← b2i_sgn (x - y)]
  have e1 : decide (0 < x - y) = decide (y < x) := decide_eq_decide.mpr ⟨fun h => by omega, fun h => by omega⟩
  have e2 : decide (x - y < 0) = decide (x < y) := decide_eq_decide.mpr ⟨fun h => by omega, fun h => by omega⟩
  rw [e1, e2]
end Onc

namespace Onc
open PySem PySem.Spec PyProof.Rows L2 Evl
/-! ### least and greatest -/
def IsLeast (n : Int × Int) (ns : List (Int × Int)) : Prop := n ∈ ns ∧ ∀ m ∈ ns, pord n m ≤ 0
def IsGreat (n : Int × Int) (ns : List (Int × Int)) : Prop := n ∈ ns ∧ ∀ m ∈ ns, pord m n ≤ 0
def AllNum (ns : List (Int × Int)) : Prop := ∀ n ∈ ns, isNumB n.1 n.2 = true
theorem pord_anti {a b : Int × Int} (ha : isNumB a.1 a.2 = true) (hb : isNumB b.1 b.2 = true) (h1 : pord a b ≤ 0) (h2 : pord b a ≤ 0) : a = b := by
  rw [pord_swap a b] at h2
  exact (ord_zero ha hb).mp (by omega)
theorem least_unique {n m : Int × Int} {ns ms : List (Int × Int)} (h1 : IsLeast n ns) (h2 : IsLeast m ms) (hs : ∀ x, x ∈ ns ↔ x ∈ ms) (a : AllNum ns) : n = m :=
  pord_anti (a n h1.1) (a m ((hs m).mpr h2.1)) (h1.2 m ((hs m).mpr h2.1)) (h2.2 n ((hs n).mp h1.1))
theorem great_unique {n m : Int × Int} {ns ms : List (Int × Int)} (h1 : IsGreat n ns) (h2 : IsGreat m ms) (hs : ∀ x, x ∈ ns ↔ x ∈ ms) (a : AllNum ns) : n = m :=
  pord_anti (a n h1.1) (a m ((hs m).mpr h2.1)) (h2.2 n ((hs n).mp h1.1)) (h1.2 m ((hs m).mpr h2.1))
theorem pneg_pneg (a : Int × Int) : pneg (pneg a) = a := by
  unfold pneg
  simp
theorem pord_neg (a b : Int × Int) : pord (pneg a) (pneg b) = pord b a := by
  have ha : min a.2 b.2 ≤ (pneg a).2 := by show min a.2 b.2 ≤ a.2; omega
  have hb : min a.2 b.2 ≤ (pneg b).2 := by show min a.2 b.2 ≤ b.2; omega
  rw [pord_at ha hb, at_neg, at_neg, pord_at (a := b) (b := a) (E := min a.2 b.2) (by omega) (by omega)]
  congr 1
  omega
theorem great_neg {n : Int × Int} {ns : List (Int × Int)} (h : IsLeast n (ns.map pneg)) : IsGreat (pneg n) ns := by
  obtain ⟨h1, h2⟩ := h
  obtain ⟨m, hm, e⟩ := List.mem_map.mp h1
  refine ⟨by rw [← e, pneg_pneg]; exact hm, fun x hx => ?_⟩
  have := h2 (pneg x) (List.mem_map.mpr ⟨x, hx, rfl⟩)
  rw [← pneg_pneg x, pord_neg]
  exact this
theorem least_le_great {n m : Int × Int} {ns : List (Int × Int)} (h1 : IsLeast n ns) (h2 : IsGreat m ns) : pord n m ≤ 0 := h1.2 m h2.1
theorem add_le {a b c d : Int × Int} (h1 : pord a b ≤ 0) (h2 : pord c d ≤ 0) : pord (padd a c) (padd b d) ≤ 0 := by
  obtain ⟨E, ha, hb, hc, h0⟩ := low3 a b c
  obtain ⟨E2, ha2, hd, hc2, h02⟩ := low3 a d c
  have l : min E E2 ≤ a.2 ∧ min E E2 ≤ b.2 ∧ min E E2 ≤ c.2 ∧ min E E2 ≤ d.2 ∧ min E E2 ≤ 0 := by omega
  obtain ⟨la, lb, lc, ld, l0⟩ := l
  rw [pord_at la lb] at h1
  rw [pord_at lc ld] at h2
  rw [pord_at (le_add la lc l0) (le_add lb ld l0), at_add la lc, at_add lb ld]
  have h1 := sgn_le h1
  have h2 := sgn_le h2
  rcases sgn_cases (at_ a (min E E2) + at_ c (min E E2) - (at_ b (min E E2) + at_ d (min E E2))) with q | q | q
  · have := sgn_of_pos q
    omega
  · omega
  · omega
theorem pord_self (a : Int × Int) : pord a a = 0 := by
  unfold pord
  rw [Int.sub_self]
  rfl
/-! ### products of ends -/
theorem ord_at {a b : Int × Int} {E : Int} (ha : E ≤ a.2) (hb : E ≤ b.2) : pord a b ≤ 0 ↔ at_ a E ≤ at_ b E := by
  rw [pord_at ha hb]
  constructor
  · intro h
    have := sgn_le h
    omega
  · intro h
    rcases sgn_cases (at_ a E - at_ b E) with q | q | q
    · have := sgn_of_pos q
      omega
    · omega
    · omega
theorem at_nonneg {a : Int × Int} {E : Int} (h : 0 ≤ a.1) : 0 ≤ at_ a E := Int.mul_nonneg h (Int.le_of_lt (pow_pos2 _))
theorem at_nonpos {a : Int × Int} {E : Int} (h : a.1 ≤ 0) : at_ a E ≤ 0 := Int.mul_nonpos_of_nonpos_of_nonneg h (Int.le_of_lt (pow_pos2 _))
def prods (a b c d : Int × Int) : List (Int × Int) := [pmul a c, pmul a d, pmul b c, pmul b d]
section
variable {a b c d x y : Int × Int} {E : Int}
theorem ord_mul2 {z w : Int × Int} (hx : E ≤ x.2) (hy : E ≤ y.2) (hz : E ≤ z.2) (hw : E ≤ w.2) (h0 : E ≤ 0) : pord (pmul x y) (pmul z w) ≤ 0 ↔ at_ x E * at_ y E ≤ at_ z E * at_ w E := by
  rw [ord_at (le_mul hx hy (show E + E ≤ 0 by omega)) (le_mul hz hw (show E + E ≤ 0 by omega)), at_mul hx hy, at_mul hz hw]
theorem least4 (ha : E ≤ a.2) (hb : E ≤ b.2) (hc : E ≤ c.2) (hd : E ≤ d.2) (h0 : E ≤ 0) (hx : E ≤ x.2) (hy : E ≤ y.2) (hm : pmul x y ∈ prods a b c d)
    (h : at_ x E * at_ y E ≤ at_ a E * at_ c E ∧ at_ x E * at_ y E ≤ at_ a E * at_ d E ∧ at_ x E * at_ y E ≤ at_ b E * at_ c E ∧ at_ x E * at_ y E ≤ at_ b E * at_ d E) : IsLeast (pmul x y) (prods a b c d) := by
  refine ⟨hm, fun m hm => ?_⟩
  obtain ⟨h1, h2, h3, h4⟩ := h
  simp only [prods, List.mem_cons, List.not_mem_nil, or_false] at hm
  rcases hm with rfl | rfl | rfl | rfl
  · exact (ord_mul2 hx hy ha hc h0).mpr h1
  · exact (ord_mul2 hx hy ha hd h0).mpr h2
  · exact (ord_mul2 hx hy hb hc h0).mpr h3
  · exact (ord_mul2 hx hy hb hd h0).mpr h4
theorem great4 (ha : E ≤ a.2) (hb : E ≤ b.2) (hc : E ≤ c.2) (hd : E ≤ d.2) (h0 : E ≤ 0) (hx : E ≤ x.2) (hy : E ≤ y.2) (hm : pmul x y ∈ prods a b c d)
    (h : at_ a E * at_ c E ≤ at_ x E * at_ y E ∧ at_ a E * at_ d E ≤ at_ x E * at_ y E ∧ at_ b E * at_ c E ≤ at_ x E * at_ y E ∧ at_ b E * at_ d E ≤ at_ x E * at_ y E) : IsGreat (pmul x y) (prods a b c d) := by
  refine ⟨hm, fun m hm => ?_⟩
  obtain ⟨h1, h2, h3, h4⟩ := h
  simp only [prods, List.mem_cons, List.not_mem_nil, or_false] at hm
  rcases hm with rfl | rfl | rfl | rfl
  · exact (ord_mul2 ha hc hx hy h0).mpr h1
  · exact (ord_mul2 ha hd hx hy h0).mpr h2
  · exact (ord_mul2 hb hc hx hy h0).mpr h3
  · exact (ord_mul2 hb hd hx hy h0).mpr h4
theorem m_ac : pmul a c ∈ prods a b c d := by simp [prods]
theorem m_ad : pmul a d ∈ prods a b c d := by simp [prods]
theorem m_bc : pmul b c ∈ prods a b c d := by simp [prods]
theorem m_bd : pmul b d ∈ prods a b c d := by simp [prods]
theorem lm {p q r : Int} (h : p ≤ q) (hr : 0 ≤ r) : r * p ≤ r * q := Int.mul_le_mul_of_nonneg_left h hr
theorem lm' {p q r : Int} (h : p ≤ q) (hr : r ≤ 0) : r * q ≤ r * p := Int.mul_le_mul_of_nonpos_left hr h
theorem rm {p q r : Int} (h : p ≤ q) (hr : 0 ≤ r) : p * r ≤ q * r := Int.mul_le_mul_of_nonneg_right h hr
theorem rm' {p q r : Int} (h : p ≤ q) (hr : r ≤ 0) : q * r ≤ p * r := Int.mul_le_mul_of_nonpos_right h hr
theorem low4 (a b c d : Int × Int) : ∃ E : Int, E ≤ a.2 ∧ E ≤ b.2 ∧ E ≤ c.2 ∧ E ≤ d.2 ∧ E ≤ 0 := ⟨min (min (min a.2 b.2) (min c.2 d.2)) 0, by omega, by omega, by omega, by omega, by omega⟩
theorem ends_a (hab : pord a b ≤ 0) (hcd : pord c d ≤ 0) (h : 0 ≤ a.1) : IsLeast (pmul (if 0 ≤ c.1 then a else b) c) (prods a b c d) ∧ IsGreat (pmul (if 0 ≤ d.1 then b else a) d) (prods a b c d) := by
  obtain ⟨E, ha, hb, hc, hd, h0⟩ := low4 a b c d
  have A := (ord_at ha hb).mp hab
  have C := (ord_at hc hd).mp hcd
  have sA : 0 ≤ at_ a E := at_nonneg h
  have f1 := lm C sA
  have f2 := lm C (Int.le_trans sA A)
  constructor
  · by_cases z : 0 ≤ c.1
    · have sC : 0 ≤ at_ c E := at_nonneg z
      have f3 := rm A sC
      rw [if_pos z]
      exact least4 ha hb hc hd h0 ha hc m_ac ⟨Int.le_refl _, by omega, by omega, by omega⟩
    · have sC : at_ c E ≤ 0 := at_nonpos (by omega)
      have f3 := rm' A sC
      rw [if_neg z]
      exact least4 ha hb hc hd h0 hb hc m_bc ⟨by omega, by omega, Int.le_refl _, by omega⟩
  · by_cases z : 0 ≤ d.1
    · have sD : 0 ≤ at_ d E := at_nonneg z
      have f3 := rm A sD
      rw [if_pos z]
      exact great4 ha hb hc hd h0 hb hd m_bd ⟨by omega, by omega, by omega, Int.le_refl _⟩
    · have sD : at_ d E ≤ 0 := at_nonpos (by omega)
      have f3 := rm' A sD
      rw [if_neg z]
      exact great4 ha hb hc hd h0 ha hd m_ad ⟨by omega, Int.le_refl _, by omega, by omega⟩
theorem ends_b (hab : pord a b ≤ 0) (hcd : pord c d ≤ 0) (h : b.1 ≤ 0) : IsLeast (pmul (if 0 ≤ d.1 then a else b) d) (prods a b c d) ∧ IsGreat (pmul (if c.1 ≤ 0 then a else b) c) (prods a b c d) := by
  obtain ⟨E, ha, hb, hc, hd, h0⟩ := low4 a b c d
  have A := (ord_at ha hb).mp hab
  have C := (ord_at hc hd).mp hcd
  have sB : at_ b E ≤ 0 := at_nonpos h
  have f1 := lm' C sB
  have f2 := lm' C (Int.le_trans A sB)
  constructor
  · by_cases z : 0 ≤ d.1
    · have sD : 0 ≤ at_ d E := at_nonneg z
      have f3 := rm A sD
      rw [if_pos z]
      exact least4 ha hb hc hd h0 ha hd m_ad ⟨by omega, Int.le_refl _, by omega, by omega⟩
    · have sD : at_ d E ≤ 0 := at_nonpos (by omega)
      have f3 := rm' A sD
      rw [if_neg z]
      exact least4 ha hb hc hd h0 hb hd m_bd ⟨by omega, by omega, by omega, Int.le_refl _⟩
  · by_cases z : c.1 ≤ 0
    · have sC : at_ c E ≤ 0 := at_nonpos z
      have f3 := rm' A sC
      rw [if_pos z]
      exact great4 ha hb hc hd h0 ha hc m_ac ⟨Int.le_refl _, by omega, by omega, by omega⟩
    · have sC : 0 ≤ at_ c E := at_nonneg (by omega)
      have f3 := rm A sC
      rw [if_neg z]
      exact great4 ha hb hc hd h0 hb hc m_bc ⟨by omega, by omega, Int.le_refl _, by omega⟩
theorem ends_c (hab : pord a b ≤ 0) (hcd : pord c d ≤ 0) (h1 : a.1 ≤ 0) (h2 : 0 ≤ b.1) (h : 0 ≤ c.1) : IsLeast (pmul a d) (prods a b c d) ∧ IsGreat (pmul b d) (prods a b c d) := by
  obtain ⟨E, ha, hb, hc, hd, h0⟩ := low4 a b c d
  have A := (ord_at ha hb).mp hab
  have C := (ord_at hc hd).mp hcd
  have sC : 0 ≤ at_ c E := at_nonneg h
  have f1 := lm' C (at_nonpos (E := E) h1)
  have f2 := lm C (at_nonneg (E := E) h2)
  have f3 := rm A sC
  have f4 := rm A (Int.le_trans sC C)
  exact ⟨least4 ha hb hc hd h0 ha hd m_ad ⟨by omega, Int.le_refl _, by omega, by omega⟩, great4 ha hb hc hd h0 hb hd m_bd ⟨by omega, by omega, by omega, Int.le_refl _⟩⟩
theorem ends_d (hab : pord a b ≤ 0) (hcd : pord c d ≤ 0) (h1 : a.1 ≤ 0) (h2 : 0 ≤ b.1) (h : d.1 ≤ 0) : IsLeast (pmul b c) (prods a b c d) ∧ IsGreat (pmul a c) (prods a b c d) := by
  obtain ⟨E, ha, hb, hc, hd, h0⟩ := low4 a b c d
  have A := (ord_at ha hb).mp hab
  have C := (ord_at hc hd).mp hcd
  have sD : at_ d E ≤ 0 := at_nonpos h
  have f1 := lm' C (at_nonpos (E := E) h1)
  have f2 := lm C (at_nonneg (E := E) h2)
  have f3 := rm' A sD
  have f4 := rm' A (Int.le_trans C sD)
  exact ⟨least4 ha hb hc hd h0 hb hc m_bc ⟨by omega, by omega, Int.le_refl _, by omega⟩, great4 ha hb hc hd h0 ha hc m_ac ⟨Int.le_refl _, by omega, by omega, by omega⟩⟩
theorem ends_e (hab : pord a b ≤ 0) (hcd : pord c d ≤ 0) (h1 : a.1 ≤ 0) (h2 : 0 ≤ b.1) (h3 : c.1 ≤ 0) (h4 : 0 ≤ d.1) :
    IsLeast (if pord (pmul a d) (pmul b c) ≤ 0 then pmul a d else pmul b c) (prods a b c d) ∧ IsGreat (if 0 ≤ pord (pmul a c) (pmul b d) then pmul a c else pmul b d) (prods a b c d) := by
  obtain ⟨E, ha, hb, hc, hd, h0⟩ := low4 a b c d
  have A := (ord_at ha hb).mp hab
  have C := (ord_at hc hd).mp hcd
  have f1 := lm' C (at_nonpos (E := E) h1)
  have f2 := lm C (at_nonneg (E := E) h2)
  have f3 := rm' A (at_nonpos (E := E) h3)
  have f4 := rm A (at_nonneg (E := E) h4)
  constructor
  · by_cases z : pord (pmul a d) (pmul b c) ≤ 0
    · have z2 := (ord_mul2 ha hd hb hc h0).mp z
      rw [if_pos z]
      exact least4 ha hb hc hd h0 ha hd m_ad ⟨by omega, Int.le_refl _, by omega, by omega⟩
    · have z2 : ¬ at_ a E * at_ d E ≤ at_ b E * at_ c E := fun y => z ((ord_mul2 ha hd hb hc h0).mpr y)
      rw [if_neg z]
      exact least4 ha hb hc hd h0 hb hc m_bc ⟨by omega, by omega, Int.le_refl _, by omega⟩
  · by_cases z : 0 ≤ pord (pmul a c) (pmul b d)
    · have z1 : pord (pmul b d) (pmul a c) ≤ 0 := by rw [pord_swap]; omega
      have z2 := (ord_mul2 hb hd ha hc h0).mp z1
      rw [if_pos z]
      exact great4 ha hb hc hd h0 ha hc m_ac ⟨Int.le_refl _, by omega, by omega, by omega⟩
    · have z1 : pord (pmul a c) (pmul b d) ≤ 0 := by omega
      have z2 := (ord_mul2 ha hc hb hd h0).mp z1
      rw [if_neg z]
      exact great4 ha hb hc hd h0 hb hd m_bd ⟨by omega, by omega, by omega, Int.le_refl _⟩
end
/-! ### parts and choices of numbers -/
section
variable {K : PySem.W.Frag} {σ : L2.St} {H H' : Hp} {ta tb tc te : TE} {n m : Int × Int} {B : Nat}
theorem ev_m (h : EvN K te σ H n B) : Ev (tOp (rIxT K) te (tC (.int 0))) σ H (.int n.1) := fun H1 e Q q =>
  h H1 e _ fun v H2 e2 g => by
    obtain ⟨a, rfl, ha⟩ := g.at_
    exact ⟨a, [.int n.1, .int n.2], 0, .int n.1, rfl, rfl, ha, rfl, q H2 e2⟩
theorem ev_e (h : EvN K te σ H n B) : Ev (tOp (rIxT K) te (tC (.int 1))) σ H (.int n.2) := fun H1 e Q q =>
  h H1 e _ fun v H2 e2 g => by
    obtain ⟨a, rfl, ha⟩ := g.at_
    exact ⟨a, [.int n.1, .int n.2], 1, .int n.2, rfl, rfl, ha, rfl, q H2 e2⟩
theorem evp_if {P : Hp → V → Prop} {t : TT} {b : Bool} (h : EvT t σ H b) (h1 : b = true → EvP P ta σ H) (h2 : b = false → EvP P tb σ H) : EvP P (tIf t ta tb) σ H := fun H1 e Q q => h H1 e _ fun H2 e2 => by
  cases b with
  | true => exact (h1 rfl) H2 (e.trans e2) _ fun v H3 e3 g => q v H3 (e2.trans e3) g
  | false => exact (h2 rfl) H2 (e.trans e2) _ fun v H3 e3 g => q v H3 (e2.trans e3) g
theorem evn_if {t : TT} {p : Prop} [Decidable p] (h : EvT t σ H (decide p)) (h1 : EvN K ta σ H n B) (h2 : EvN K tb σ H m B) : EvN K (tIf t ta tb) σ H (if p then n else m) B := by
  by_cases z : p
  · rw [if_pos z]
    exact evp_if h (fun _ => h1) (fun y => by rw [decide_eq_true z] at y; cases y)
  · rw [if_neg z]
    exact evp_if h (fun y => by rw [decide_eq_false z] at y; cases y) (fun _ => h2)
theorem evn_les (ha : EvN K ta σ H n B) (hb : EvN K tb σ H m B) (l : B ≤ LIM := by decide) : EvN K (tCall (spLes K) [] E0 (tCons ta (tCons tb tNil))) σ H (if pord n m ≤ 0 then n else m) B := fun H1 e Q q =>
  ha H1 e _ fun u H2 e2 gu => hb H2 (e.trans e2) _ fun v H3 e3 gv => ⟨u, v, n, m, rfl, (gu.ex e3).mono l, gv.mono l, fun z H4 e4 => by rw [if_pos z] at q; exact q u H4 ((e2.trans e3).trans e4) ((gu.ex e3).ex e4), fun z H4 e4 => by rw [if_neg (by omega)] at q; exact q v H4 ((e2.trans e3).trans e4) (gv.ex e4)⟩
theorem evn_gre (ha : EvN K ta σ H n B) (hb : EvN K tb σ H m B) (l : B ≤ LIM := by decide) : EvN K (tCall (spGre K) [] E0 (tCons ta (tCons tb tNil))) σ H (if 0 ≤ pord n m then n else m) B := fun H1 e Q q =>
  ha H1 e _ fun u H2 e2 gu => hb H2 (e.trans e2) _ fun v H3 e3 gv => ⟨u, v, n, m, rfl, (gu.ex e3).mono l, gv.mono l, fun z H4 e4 => by rw [if_pos z] at q; exact q u H4 ((e2.trans e3).trans e4) ((gu.ex e3).ex e4), fun z H4 e4 => by rw [if_neg (by omega)] at q; exact q v H4 ((e2.trans e3).trans e4) (gv.ex e4)⟩
end
/-! ### what is known of the class Stretch -/
structure StrC (K : PySem.W.Frag) (mg : Str → Option Value) (C : Addr) : Prop where
  m : mg "Stretch" = some (.ref C)
  cl : Cls K C
  nl : NoAttr K C "low"
  nh : NoAttr K C "high"
  ha : PySem.W.findIn K (.ref C) "__class__" = some (some (.builtin "object.__class__"))
  hn : PySem.W.specialIn K (.builtin "object.__class__") "__get__" = some (some (.builtin "getset_descriptor.__get__"))
  htk : PySem.W.takesIn K (.builtin "object.__class__") = some true
  hm : PySem.W.mroIn K C (.type "object") = some true
structure CalI (P : Program) (w : World) (K : PySem.W.Frag) (mg : Str → Option Value) (base : Heap) (CX : CXT) (k : Nat) (ps : List Str) (sp : Sp) (f : Addr) (fd : FuncData) : Prop where
  ok : FnOk P w K mg base CX k f fd ps sp
  b : Binds K fd ps []
structure CalK (P : Program) (w : World) (K : PySem.W.Frag) (mg : Str → Option Value) (base : Heap) (CX : CXT) (k : Nat) (x : Str) (ps : List Str) (sp : Sp) (f : Addr) (fd : FuncData) : Prop where
  ok : FnOk P w K mg base CX k f fd ps sp
  m : mg x = some (.ref f)
  kp : PySem.W.keepIn K (.ref f) = true
def StrAt (K : PySem.W.Frag) (C : Addr) (B : Nat) (a b : Int × Int) (H : Hp) (v : V) : Prop := ∃ x dx u w, v = .ref x ∧ H x = some (.ins C dx [("low", u), ("high", w)]) ∧ Gn K H u a B ∧ Gn K H w b B
section
variable {K : PySem.W.Frag} {mg : Str → Option Value} {C : Addr} {σ : L2.St} {H H' : Hp} {ta tb tc te : TE} {a b : Int × Int} {B : Nat}
theorem str_mono : Mono (StrAt K C B a b) := fun _ _ _ e ⟨x, dx, u, w, e1, h, g1, g2⟩ => ⟨x, dx, u, w, e1, e _ _ h, g1.ex e, g2.ex e⟩
theorem kit_self : PySem.W.kitOne K (.ref C) (.ref C) = some true := by
  unfold PySem.W.kitOne
  simp
theorem isi_str {v : V} {Q : VK} (S : StrC K mg C) (h : StrAt K C B a b H v) (q : Q (.bl true) H) : rIsi K [v, .ref C] H Q := by
  obtain ⟨x, dx, u, w, rfl, hx, _, _⟩ := h
  exact ⟨.ref x, .ref C, .ref C, .ref C, true, rfl, .own C, .base (.ins hx S.cl S.ha S.hn S.htk S.hm), kit_self, q⟩
theorem ev_isS (S : StrC K mg C) (h : EvP (StrAt K C B a b) ta σ H) : Ev (tCB (rIsi K) (tCons ta (tCons (tC (.ref C)) tNil))) σ H (.bl true) := fun H1 e Q q =>
  h H1 e _ fun v H2 e2 g => isi_str S g (q H2 e2)
theorem evn_low (S : StrC K mg C) (h : EvP (StrAt K C B a b) ta σ H) : EvN K (tFld K ta "low") σ H a B := fun H1 e Q q =>
  h H1 e _ fun v H2 e2 ⟨x, dx, u, w, e1, hx, g1, g2⟩ => ⟨x, C, dx, _, u, e1, hx, S.cl, S.nl, rfl, q u H2 e2 g1⟩
theorem evn_high (S : StrC K mg C) (h : EvP (StrAt K C B a b) ta σ H) : EvN K (tFld K ta "high") σ H b B := fun H1 e Q q =>
  h H1 e _ fun v H2 e2 ⟨x, dx, u, w, e1, hx, g1, g2⟩ => ⟨x, C, dx, _, w, e1, hx, S.cl, S.nh, by rfl, q w H2 e2 g2⟩
theorem evs_var {i : Nat} {v : V} (hv : σ[i]? = some (some v)) (h : StrAt K C B a b H v) : EvP (StrAt K C B a b) (tVar i) σ H := evp_of (ev_var hv) str_mono h
def spInit (K : PySem.W.Frag) (C : Addr) : Sp := fun vs H Q _ => ∃ x dx u v a b, vs = [.ref x, u, v] ∧ H x = some (.ins C dx []) ∧ Gn K H u a LIM ∧ Gn K H v b LIM ∧ pord a b ≤ 0 ∧
  ∀ H', (∀ c o, H c = some o → c ≠ x → H' c = some o) → H' x = some (.ins C dx [("low", u), ("high", v)]) → Q .non H'
theorem evs_make {B1 B2 : Nat} (ha : EvN K ta σ H a B1) (hb : EvN K tb σ H b B2) (l1 : B1 ≤ B) (l2 : B2 ≤ B) (lB : B ≤ LIM) (hle : pord a b ≤ 0) : EvP (StrAt K C B a b) (tMake C (spInit K C) [] E0 (tCons ta (tCons tb tNil))) σ H := fun H1 e Q q =>
  ha H1 e _ fun u H2 e2 gu => hb H2 (e.trans e2) _ fun v H3 e3 gv => fun x dx hx hdx ne => by
    have en : Ex H3 (upd (upd H3 dx (.own x)) x (.ins C dx [])) := fun c o h => by
      rw [upd_ne (ne_of_none h hx), upd_ne (ne_of_none h hdx)]
      exact h
    refine ⟨x, dx, u, v, a, b, rfl, upd_same, ((gu.ex e3).ex en).mono (by omega), (gv.ex en).mono (by omega), hle, fun H' k h' => ⟨rfl, ?_⟩⟩
    have ef : Ex H3 H' := fun c o h => k c o (en c o h) (ne_of_none h hx)
    exact q (.ref x) H' ((e2.trans e3).trans ef) ⟨x, dx, u, v, rfl, h', ((gu.ex e3).ex ef).mono l1, (gv.ex ef).mono l2⟩
theorem o_call {sp : Sp} {dvs : List V} {E : XK} {t : TA} {Q : VK} (h : t σ H fun vs H1 => sp (vs ++ dvs) H1 Q E) : tCall sp dvs E t σ H Q := h
theorem o_itup {tl : TE} {R : It → Hp → Prop} (h : tl σ H fun x H1 => ∃ a, x = .ref a ∧ (∃ xs, SqT K H1 a xs) ∧ R (Itt K a) H1) : iTup K tl σ H R := h
theorem o_op {r : R2} {Q : VK} (h : ta σ H fun x H1 => tb σ H1 fun y H2 => r x y H2 Q) : tOp r ta tb σ H Q := h
theorem o_var {i : Nat} {v : V} {Q : VK} (hv : σ[i]? = some (some v)) (h : Q v H) : tVar i σ H Q := ⟨v, hv, h⟩
theorem o_cons {tr : TA} {Q : List V → Hp → Prop} (h : ta σ H fun x H1 => tr σ H1 fun xs H2 => Q (x :: xs) H2) : tCons ta tr σ H Q := h
/-! ### pairs of numbers -/
def PairAt (K : PySem.W.Frag) (B : Nat) (a b : Int × Int) (H : Hp) (v : V) : Prop := ∃ p x y, v = .ref p ∧ SqT K H p [x, y] ∧ Gn K H x a B ∧ Gn K H y b B
theorem pair_mono : Mono (PairAt K B a b) := fun _ _ _ e ⟨p, x, y, e1, h, g1, g2⟩ => ⟨p, x, y, e1, ex_t e h, g1.ex e, g2.ex e⟩
theorem evn_fst (h : EvP (PairAt K B a b) ta σ H) : EvN K (tOp (rIxT K) ta (tC (.int 0))) σ H a B := fun H1 e Q q =>
  h H1 e _ fun v H2 e2 ⟨p, x, y, e1, hp, g1, g2⟩ => ⟨p, [x, y], 0, x, e1, rfl, hp, rfl, q x H2 e2 g1⟩
theorem evn_snd (h : EvP (PairAt K B a b) ta σ H) : EvN K (tOp (rIxT K) ta (tC (.int 1))) σ H b B := fun H1 e Q q =>
  h H1 e _ fun v H2 e2 ⟨p, x, y, e1, hp, g1, g2⟩ => ⟨p, [x, y], 1, y, e1, rfl, hp, rfl, q y H2 e2 g2⟩
theorem evpair_var {i : Nat} {v : V} (hv : σ[i]? = some (some v)) (h : PairAt K B a b H v) : EvP (PairAt K B a b) (tVar i) σ H := evp_of (ev_var hv) pair_mono h
theorem evpair_mk {B1 B2 : Nat} (ha : EvN K ta σ H a B1) (hb : EvN K tb σ H b B2) (l1 : B1 ≤ B) (l2 : B2 ≤ B) : EvP (PairAt K B a b) (tTup (tCons ta (tCons tb tNil))) σ H := fun H1 e Q q =>
  ha H1 e _ fun u H2 e2 gu => hb H2 (e.trans e2) _ fun v H3 e3 gv => ⟨by show 2 ≤ sizeLine; decide, fun p hp => q (.ref p) _ ((e2.trans e3).trans (Ex.new hp)) ⟨p, u, v, rfl, st_of upd_same, (gu.ex (e3.trans (Ex.new hp))).mono l1, (gv.ex (Ex.new hp)).mono l2⟩⟩
theorem pair_dp2 {v : V} (h : PairAt K B a b H v) : Dp K H v (.tuple [pairD a, pairD b]) := by
  obtain ⟨p, x, y, rfl, hp, g1, g2⟩ := h
  exact .tup hp (.cons (numAt_dp g1.at_) (.cons (numAt_dp g2.at_) .nil))
theorem pair2_lay (a b : Int × Int) : PyData.canLay0 (.tuple [pairD a, pairD b]) = true := rfl
theorem pair2_shaped (a b : Int × Int) : SeqAt.shaped (.tuple [pairD a, pairD b]) = true := rfl
theorem evt_pairs {c d : Int × Int} {B2 : Nat} (h1 : EvP (PairAt K B a b) ta σ H) (h2 : EvP (PairAt K B2 c d) tb σ H) (e1 : a = c) (e2 : b = d) : EvT (tTest (tOp (rNeD K) ta tb)) σ H false := fun H1 e Q q =>
  h1 H1 e _ fun u H2 e3 gu => h2 H2 (e.trans e3) _ fun v H3 e4 gv => by
    subst e1 e2
    refine ⟨_, _, pair_dp2 (pair_mono _ _ _ e4 gu), pair_dp2 gv, pair2_shaped _ _, pair2_shaped _ _, false, ?_, q H3 (e3.trans e4)⟩
    rw [SeqAt.eqv_refl _ (pair2_lay a b)]
    rfl
theorem ev_pairs {c d : Int × Int} {B2 : Nat} (h1 : EvP (PairAt K B a b) ta σ H) (h2 : EvP (PairAt K B2 c d) tb σ H) (e1 : a = c) (e2 : b = d) : Ev (tOp (rEqD K) ta tb) σ H (.bl true) := fun H1 e Q q =>
  h1 H1 e _ fun u H2 e3 gu => h2 H2 (e.trans e3) _ fun v H3 e4 gv => by
    subst e1 e2
    refine ⟨_, _, pair_dp2 (pair_mono _ _ _ e4 gu), pair_dp2 gv, pair2_shaped _ _, pair2_shaped _ _, ?_⟩
    rw [SeqAt.eqv_refl _ (pair2_lay a b)]
    exact q H3 (e3.trans e4)
/-! ### comprehensions: the i-th item of P i -/
def EvLI (P : Nat → Hp → V → Prop) (te : TE) (σ : L2.St) (H : Hp) (n : Nat) : Prop := ∀ H1, Ex H H1 → ∀ Q : VK, (∀ p vs H2, Ex H1 H2 → H1 p = none → H2 p = some (.lst vs) → vs.length = n → (∀ i v, vs[i]? = some v → P i H2 v) → Q (.ref p) H2) → te σ H1 Q
theorem app_at {P : Nat → Hp → V → Prop} {vs : List V} {y : V} (m : ∀ i, Mono (P i)) (e : Ex H H') (h : ∀ i v, vs[i]? = some v → P i H v) (hy : P vs.length H' y) : ∀ i v, (vs ++ [y])[i]? = some v → P i H' v := fun i v hv => by
  by_cases l : i < vs.length
  · rw [List.getElem?_append_left l] at hv
    exact m i _ _ _ e (h i v hv)
  · rw [List.getElem?_append_right (by omega)] at hv
    have e0 : i - vs.length = 0 := by
      rcases Nat.eq_zero_or_pos (i - vs.length) with z | z
      · exact z
      · rw [List.getElem?_eq_none (by simp; omega)] at hv
        cases hv
    rw [e0] at hv
    have e1 : i = vs.length := by omega
    subst e1
    cases (show y = v from Option.some.inj hv)
    exact hy
/-- what an item of the list under way keeps while the list itself grows -/
def Keep1 (P : Nat → Hp → V → Prop) : Prop := ∀ i p ys H H' v, P i H v → H p = some (.lst ys) → Keeps p H H' → P i H' v
theorem app_keep {P : Nat → Hp → V → Prop} {vs : List V} {y : V} {D : Addr} (k1 : Keep1 P) (hD : H D = some (.lst vs)) (h : ∀ i v, vs[i]? = some v → P i H v) (hy : P vs.length H y) : ∀ i v, (vs ++ [y])[i]? = some v → P i (upd H D (.lst (vs ++ [y]))) v := fun i v hv => by
  by_cases l : i < vs.length
  · rw [List.getElem?_append_left l] at hv
    exact k1 i D _ _ _ v (h i v hv) hD keeps_upd
  · rw [List.getElem?_append_right (by omega)] at hv
    have e0 : i - vs.length = 0 := by
      rcases Nat.eq_zero_or_pos (i - vs.length) with z | z
      · exact z
      · rw [List.getElem?_eq_none (by simp; omega)] at hv
        cases hv
    rw [e0] at hv
    have e1 : i = vs.length := by omega
    subst e1
    cases (show y = v from Option.some.inj hv)
    exact k1 _ D _ _ _ _ hy hD keeps_upd
/-- over a tuple | a list whose i-th item is of S i -/
theorem eli_lcT {S P : Nat → Hp → V → Prop} {n : Nat} {vs : List Nat} {g : TG} {tl : TE} (mS : ∀ i, Mono (S i)) (mP : ∀ i, Mono (P i)) (kP : Keep1 P) (hn : n ≤ 50000)
    (h : EvP (fun H v => ∃ p xs, v = .ref p ∧ SqT K H p xs ∧ xs.length = n ∧ ∀ i x, xs[i]? = some x → S i H x) tl σ H)
    (ht : ∀ i x H1, Ex H H1 → S i H1 x → ∃ σ2, (∀ Q : L2.St → Hp → Prop, Q σ2 H1 → g x (wipe σ vs) H1 Q) ∧ wipe σ2 vs = wipe σ vs ∧ EvP (P i) te σ2 H1) : EvLI P (tLc (iTup K tl) g tYes te vs) σ H n := fun H1 e Q q =>
  h H1 e _ fun v H2 e2 ⟨p, xs, e1, hp, hl, hS⟩ => ⟨p, e1, ⟨_, hp⟩, fun D hD => lc_tup (xs := xs) (fun k H' => Ex H2 H' ∧ ∃ ys, H' D = some (.lst ys) ∧ ys.length = k ∧ ∀ i y, ys[i]? = some y → P i H' y) ⟨Ex.new hD, [], upd_same, rfl, fun i y hy => by simp at hy⟩ (fun k H' _ hk => ex_t hk.1 hp)
    (fun k x H' hx hk => by
      obtain ⟨ex, ys, hys, hlen, hall⟩ := hk
      obtain ⟨σ2, hg, hw, he⟩ := ht k x H' ((e.trans e2).trans ex) (mS k _ _ _ ex (hS k x hx))
      refine hg _ ⟨hw, o_yes (iteT ?_)⟩
      refine he H' (Ex.refl H') _ fun y H3 e3 py => ⟨ys, e3 _ _ hys, ?_, (ex.trans e3).mut hD, ys ++ [y], upd_same, ?_, ?_⟩
      · have := (List.getElem?_eq_some_iff.mp hx).1
        exact sz_lt (by omega)
      · rw [List.length_append, hlen]
        rfl
      · subst hlen
        exact app_keep kP (e3 _ _ hys) (fun i z hz => mP i _ _ _ e3 (hall i z hz)) py)
    (fun H' hk => by
      obtain ⟨ex, ys, hys, hlen, hall⟩ := hk
      exact q D ys H' (e2.trans ex) (fresh_back e2 hD) hys (hlen.trans hl) hall)⟩
theorem eli_lcL {S P : Nat → Hp → V → Prop} {n : Nat} {vs : List Nat} {g : TG} {tl : TE} (mS : ∀ i, Mono (S i)) (mP : ∀ i, Mono (P i)) (kP : Keep1 P) (hn : n ≤ 50000)
    (h : EvP (fun H v => ∃ p xs, v = .ref p ∧ SqL K H p xs ∧ xs.length = n ∧ ∀ i x, xs[i]? = some x → S i H x) tl σ H)
    (ht : ∀ i x H1, Ex H H1 → S i H1 x → ∃ σ2, (∀ Q : L2.St → Hp → Prop, Q σ2 H1 → g x (wipe σ vs) H1 Q) ∧ wipe σ2 vs = wipe σ vs ∧ EvP (P i) te σ2 H1) : EvLI P (tLc (iList K tl) g tYes te vs) σ H n := fun H1 e Q q =>
  h H1 e _ fun v H2 e2 ⟨p, xs, e1, hp, hl, hS⟩ => ⟨p, e1, ⟨_, hp⟩, fun D hD => lc_list (xs := xs) (fun k H' => Ex H2 H' ∧ ∃ ys, H' D = some (.lst ys) ∧ ys.length = k ∧ ∀ i y, ys[i]? = some y → P i H' y) ⟨Ex.new hD, [], upd_same, rfl, fun i y hy => by simp at hy⟩ (fun k H' _ hk => ex_l hk.1 hp)
    (fun k x H' hx hk => by
      obtain ⟨ex, ys, hys, hlen, hall⟩ := hk
      obtain ⟨σ2, hg, hw, he⟩ := ht k x H' ((e.trans e2).trans ex) (mS k _ _ _ ex (hS k x hx))
      refine hg _ ⟨hw, o_yes (iteT ?_)⟩
      refine he H' (Ex.refl H') _ fun y H3 e3 py => ⟨ys, e3 _ _ hys, ?_, (ex.trans e3).mut hD, ys ++ [y], upd_same, ?_, ?_⟩
      · have := (List.getElem?_eq_some_iff.mp hx).1
        exact sz_lt (by omega)
      · rw [List.length_append, hlen]
        rfl
      · subst hlen
        exact app_keep kP (e3 _ _ hys) (fun i z hz => mP i _ _ _ e3 (hall i z hz)) py)
    (fun H' hk => by
      obtain ⟨ex, ys, hys, hlen, hall⟩ := hk
      exact q D ys H' (e2.trans ex) (fresh_back e2 hD) hys (hlen.trans hl) hall)⟩
/-- the i-th is the i-th number -/
def NthN (K : PySem.W.Frag) (B : Nat) (ns : List (Int × Int)) (i : Nat) (H : Hp) (v : V) : Prop := ∃ n, ns[i]? = some n ∧ Gn K H v n B
theorem nth_mono {ns : List (Int × Int)} : ∀ i, Mono (NthN K B ns i) := fun _ _ _ _ e ⟨n, h, g⟩ => ⟨n, h, g.ex e⟩
theorem nth_keep {ns : List (Int × Int)} : Keep1 (NthN K B ns) := fun _ _ _ _ _ _ ⟨n, h, g⟩ hp k => ⟨n, h, gn_keep g hp k⟩
theorem nth_gnL : ∀ {vs : List V} {ns : List (Int × Int)}, vs.length = ns.length → (∀ i v, vs[i]? = some v → NthN K B ns i H v) → GnL K H B vs ns
  | [], [], _, _ => trivial
  | v :: vs, n :: ns, hl, h => by
    obtain ⟨m, hm, g⟩ := h 0 v rfl
    have e : n = m := Option.some.inj hm
    subst e
    exact ⟨g, nth_gnL (Nat.succ.inj hl) fun i x hx => h (i + 1) x hx⟩
theorem gnL_nth : ∀ {vs : List V} {ns : List (Int × Int)}, GnL K H B vs ns → ∀ i v, vs[i]? = some v → NthN K B ns i H v
  | [], [], _, i, v, h => by simp at h
  | x :: _, n :: _, g, 0, v, h => by
    have e : x = v := Option.some.inj h
    subst e
    exact ⟨n, rfl, g.1⟩
  | _ :: _, _ :: _, g, i + 1, v, h => gnL_nth g.2 i v h
end
section
variable {K : PySem.W.Frag}
theorem kb_pos {x qual : Str} {params : Arguments} {body : List Stmt} {scope : Scope} {kws : List (Str × V)} {f : Addr} {fd : FuncData} {ps : List Str} (F : FunD K x qual params body scope [] kws f fd) (n : Nat) (ks : List Str)
    (h : ∀ (kV doc pm : Value) (an : Option Addr) (cdv ct : Value) (us ws : List Value), us.length = n → ws.length = ks.length → bindArgs (PySem.W.fnOf x qual params body scope .none kV doc pm an cdv ct) ⟨us, ks.zip ws⟩ = pure (ps.zip (us ++ ws))) : KBn K fd ps n ks (fun us ws => us ++ ws) (fun vs zs => vs ++ zs) := by
  obtain ⟨oc, od, dV, kV, doc, pm, an, cdv, ct, osl, rfl, lk, hcd, hD, hK⟩ := F.ex
  rcases hD with ⟨_, rfl⟩ | ⟨e, _⟩
  · exact ⟨fun s us ws X l1 l2 => .of_eq (h kV doc pm an cdv ct us ws l1 l2), fun r1 r2 => r1.append r2⟩
  · exact absurd rfl e
end
end Onc

namespace Onc
open PySem PySem.Spec PyProof.Rows L2 Evl
/-! ### roots of whole numbers -/
def IsRoot (r n : Int) : Prop := 0 ≤ r ∧ r * r ≤ n ∧ n < (r + 1) * (r + 1)
theorem sq_mono {a b : Int} (h0 : 0 ≤ a) (h : a ≤ b) : a * a ≤ b * b := Int.mul_le_mul h h h0 (by omega)
theorem root_unique {r s n : Int} (h1 : IsRoot r n) (h2 : IsRoot s n) : r = s := by
  obtain ⟨a1, a2, a3⟩ := h1
  obtain ⟨b1, b2, b3⟩ := h2
  rcases Int.lt_trichotomy r s with l | l | l
  · have := sq_mono (a := r + 1) (b := s) (by omega) (by omega)
    omega
  · exact l
  · have := sq_mono (a := s + 1) (b := r) (by omega) (by omega)
    omega
/-- a step of Newton's stays at the root or above it -/
theorem newton_ge {g n : Int} (hg : 0 < g) (hn : 0 ≤ n) : n < ((g + n / g) / 2 + 1) * ((g + n / g) / 2 + 1) := by
  have h1 : n < g * (n / g + 1) := by
    have e := Int.mul_ediv_add_emod n g
    have l := Int.emod_lt_of_pos n hg
    rw [Int.mul_add, Int.mul_one]
    omega
  have k0 : 0 ≤ n / g := Int.ediv_nonneg hn (by omega)
  generalize n / g = k at *
  have h2 : g + k + 1 ≤ 2 * ((g + k) / 2 + 1) := by omega
  generalize (g + k) / 2 + 1 = x at *
  have h3 : (g + k + 1) * (g + k + 1) ≤ (2 * x) * (2 * x) := sq_mono (by omega) h2
  have h4 : 4 * (g * (k + 1)) ≤ (g + k + 1) * (g + k + 1) := by
    have h5 : 0 ≤ (g - (k + 1)) * (g - (k + 1)) := by
      rcases Int.le_total 0 (g - (k + 1)) with z | z
      · exact Int.mul_nonneg z z
      · have := Int.mul_nonneg (show 0 ≤ -(g - (k + 1)) by omega) (show 0 ≤ -(g - (k + 1)) by omega)
        rw [Int.neg_mul_neg] at this
        exact this
    have e1 : (g + k + 1) * (g + k + 1) = (g - (k + 1)) * (g - (k + 1)) + 4 * (g * (k + 1)) := by
      have e2 : g + k + 1 = g + (k + 1) := by omega
      rw [e2]
      generalize k + 1 = y
      rw [Int.sub_mul, Int.mul_sub, Int.mul_sub, Int.add_mul, Int.mul_add, Int.mul_add, Int.mul_comm y g]
      omega
    omega
  have e3 : (2 * x) * (2 * x) = 4 * (x * x) := by
    rw [Int.mul_assoc, Int.mul_left_comm x 2 x]
    omega
  omega
theorem newton_end {g n : Int} (hg : 0 < g) (hn : 0 ≤ n) (h : ¬ (g + n / g) / 2 < g) : g * g ≤ n := by
  have h1 : g ≤ n / g := by omega
  have h2 : g * g ≤ g * (n / g) := Int.mul_le_mul_of_nonneg_left h1 (by omega)
  have e := Int.mul_ediv_add_emod n g
  have l := Int.emod_nonneg n (show g ≠ 0 by omega)
  omega
theorem newton_pos {g n : Int} (hg : 0 < g) (hn : 0 < n) : 0 < (g + n / g) / 2 := by
  have h := newton_ge hg (show 0 ≤ n by omega)
  have k0 : 0 ≤ n / g := Int.ediv_nonneg (by omega) (by omega)
  have h0 : 0 ≤ (g + n / g) / 2 := by omega
  rcases Int.lt_or_eq_of_le h0 with z | z
  · exact z
  · rw [← z] at h
    omega
/-- the first guess -/
theorem guess_ge {n : Int} (hn : 0 < n) : n < (2 ^ ((Builtin.Int.intBits n + 1) / 2) + 1 : Int) * (2 ^ ((Builtin.Int.intBits n + 1) / 2) + 1) := by
  have hb : n.natAbs < 2 ^ Builtin.Int.intBits n := by
    rw [bits_of (by omega)]
    exact Nat.lt_log2_self
  have h1 : (2 : Nat) ^ Builtin.Int.intBits n ≤ 2 ^ ((Builtin.Int.intBits n + 1) / 2) * 2 ^ ((Builtin.Int.intBits n + 1) / 2) := by
    rw [← Nat.pow_add]
    exact Nat.pow_le_pow_right (by decide) (by omega)
  have h2 : n < ((2 ^ ((Builtin.Int.intBits n + 1) / 2) * 2 ^ ((Builtin.Int.intBits n + 1) / 2) : Nat) : Int) := by omega
  rw [Int.natCast_mul, pow_two_cast] at h2
  have hp := pow_pos2 ((Builtin.Int.intBits n + 1) / 2)
  generalize (2 : Int) ^ ((Builtin.Int.intBits n + 1) / 2) = y at *
  have e : (y + 1) * (y + 1) = y * y + 2 * y + 1 := by
    rw [Int.add_mul, Int.mul_add]
    omega
  omega
theorem root_exists (n : Nat) : ∃ r : Int, IsRoot r n := by
  induction n with
  | zero => exact ⟨0, by decide, by decide, by decide⟩
  | succ n ih =>
    obtain ⟨r, h0, h1, h2⟩ := ih
    by_cases h : ((n + 1 : Nat) : Int) < (r + 1) * (r + 1)
    · exact ⟨r, h0, by omega, h⟩
    · refine ⟨r + 1, by omega, by omega, ?_⟩
      have e : (r + 1 + 1) * (r + 1 + 1) = (r + 1) * (r + 1) + 2 * (r + 1) + 1 := by
        rw [Int.add_mul (r + 1) 1, Int.mul_add (r + 1) (r + 1) 1]
        omega
      rw [e]
      omega
/-- the greatest whole number whose square is no greater -/
noncomputable def froot (n : Int) : Int := Classical.choose (root_exists n.toNat)
theorem froot_spec {n : Int} (h : 0 ≤ n) : IsRoot (froot n) n := by
  have h1 : IsRoot (froot n) ((n.toNat : Nat) : Int) := Classical.choose_spec (root_exists n.toNat)
  have e : ((n.toNat : Nat) : Int) = n := Int.toNat_of_nonneg h
  rw [e] at h1
  exact h1
theorem froot_of {r n : Int} (h : IsRoot r n) : froot n = r := by
  have h0 : 0 ≤ n := by
    have := Int.mul_nonneg h.1 h.1
    have := h.2.1
    omega
  exact root_unique (froot_spec h0) h
/-- the least whole number whose square is no less -/
noncomputable def croot (n : Int) : Int := if froot n * froot n = n then froot n else froot n + 1
/-! ### whole numbers at a power -/
def fl (n : Int × Int) (E : Int) : Int := if E ≤ n.2 then n.1 * 2 ^ (n.2 - E).toNat else n.1 / 2 ^ (E - n.2).toNat
def cl (n : Int × Int) (E : Int) : Int := -fl (pneg n) E
theorem fl_nn {n : Int × Int} (h : 0 ≤ n.1) (E : Int) : 0 ≤ fl n E := by
  unfold fl
  by_cases l : E ≤ n.2
  · rw [if_pos l]
    exact Int.mul_nonneg h (Int.le_of_lt (pow_pos2 _))
  · rw [if_neg l]
    exact Int.ediv_nonneg h (Int.le_of_lt (pow_pos2 _))
/-! ### quotients -/
def fq (a b : Int × Int) (bits : Int) : Int := if a.2 - b.2 + bits < 0 then a.1.fdiv (b.1 * 2 ^ (-(a.2 - b.2 + bits)).toNat) else (a.1 * 2 ^ (a.2 - b.2 + bits).toNat).fdiv b.1
section
variable {X : Cx}
def CDivZ (_ j : Int) : Prop := j ≠ 0 ∧ j.natAbs.log2 < 9000
/-- // by any divisor but 0 below 2 ^ 9000 -/
theorem op_fdivZ : OpR X (binaryOp .FloorDiv) (rI CDivZ fun i j => .int (i.fdiv j)) := opI fun _ _ _ _ _ _ _ hc q => floordiv_int hc.1 q (.inl (PyProof.noPylong_of_log2 hc.2))
end
theorem divz_ok {i j : Int} {k : Nat} (h : j ≠ 0) (hb : j.natAbs < 2 ^ k) (hk : k ≤ 9000) : CDivZ i j := by
  refine ⟨h, ?_⟩
  by_cases h0 : k = 0
  · subst h0
    have : j.natAbs < 1 := hb
    omega
  · exact Nat.lt_of_lt_of_le (PySem.Flt.log2_lt_of (by omega) hb) hk
theorem fdiv_flip (x y : Int) : (-x).fdiv (-y) = x.fdiv y := Int.neg_fdiv_neg x y
theorem fdiv_pos_sum {x y : Int} (h : 0 < y) : x.fdiv y + (-x).fdiv y ≤ 0 := by
  rw [Int.fdiv_eq_ediv_of_nonneg x (by omega), Int.fdiv_eq_ediv_of_nonneg (-x) (by omega)]
  have h1 := Int.ediv_mul_le x (show y ≠ 0 by omega)
  have h2 := Int.ediv_mul_le (-x) (show y ≠ 0 by omega)
  have h3 : (x / y + -x / y) * y ≤ 0 := by
    rw [Int.add_mul]
    omega
  rcases Int.lt_or_le 0 (x / y + -x / y) with z | z
  · have := Int.mul_pos z h
    omega
  · exact z
theorem fdiv_sum {x y : Int} (h : y ≠ 0) : x.fdiv y + (-x).fdiv y ≤ 0 := by
  rcases Int.lt_trichotomy y 0 with z | z | z
  · have h1 := fdiv_pos_sum (x := x) (y := -y) (by omega)
    rw [← fdiv_flip x y, ← fdiv_flip (-x) y, Int.neg_neg]
    omega
  · exact absurd z h
  · exact fdiv_pos_sum z
theorem fq_neg {a b : Int × Int} {bits : Int} : fq (pneg a) (pneg b) bits = fq a b bits := by
  unfold fq pneg
  simp only
  rw [Int.neg_mul, Int.neg_mul, fdiv_flip, fdiv_flip]
theorem fq_le {a b : Int × Int} {bits : Int} (h : b.1 ≠ 0) : fq a b bits ≤ -fq (pneg a) b bits := by
  unfold fq pneg
  simp only
  by_cases l : a.2 - b.2 + bits < 0
  · rw [if_pos l, if_pos l]
    have := fdiv_sum (x := a.1) (y := b.1 * 2 ^ (-(a.2 - b.2 + bits)).toNat) (fun z => (Int.mul_eq_zero.mp z).elim h (Int.ne_of_gt (pow_pos2 _)))
    omega
  · rw [if_neg l, if_neg l]
    have := fdiv_sum (x := a.1 * 2 ^ (a.2 - b.2 + bits).toNat) (y := b.1) h
    rw [← Int.neg_mul] at this
    omega
theorem nrm_ord {x y E : Int} (hE : E ≤ 0) (h : x ≤ y) : pord (nrm x E) (nrm y E) ≤ 0 := by
  rw [pord_at (nrm_le hE) (nrm_le hE), at_same, at_same]
  rcases sgn_cases (x - y) with q | q | q
  · have := sgn_of_pos q
    omega
  · omega
  · omega
/-! ### roots told twice -/
theorem cl_nn {n : Int × Int} (h : 0 ≤ n.1) (E : Int) : 0 ≤ cl n E := by
  unfold cl fl pneg
  simp only
  by_cases l : E ≤ n.2
  · rw [if_pos l, Int.neg_mul, Int.neg_neg]
    exact Int.mul_nonneg h (Int.le_of_lt (pow_pos2 _))
  · rw [if_neg l]
    have hp := pow_pos2 (E - n.2).toNat
    have := Int.ediv_le_ediv (c := 2 ^ (E - n.2).toNat) hp (show -n.1 ≤ 0 by omega)
    rw [Int.zero_ediv] at this
    omega
theorem croot_of {r x : Int} (h0 : 0 ≤ r) (h1 : r * r < x) (h2 : x ≤ (r + 1) * (r + 1)) : croot x = r + 1 := by
  unfold croot
  rcases Int.lt_or_eq_of_le h2 with z | z
  · rw [froot_of (r := r) ⟨h0, by omega, z⟩, if_neg (by omega)]
  · have e : (r + 1 + 1) * (r + 1 + 1) = (r + 1) * (r + 1) + 2 * (r + 1) + 1 := by
      rw [Int.add_mul (r + 1) 1, Int.mul_add (r + 1) (r + 1) 1]
      omega
    rw [froot_of (r := r + 1) ⟨by omega, by omega, by omega⟩, if_pos z.symm]
theorem croot_sq {r : Int} (h0 : 0 ≤ r) : croot (r * r) = r := by
  unfold croot
  have e : (r + 1) * (r + 1) = r * r + 2 * r + 1 := by
    rw [Int.add_mul, Int.mul_add]
    omega
  rw [froot_of (r := r) ⟨h0, by omega, by omega⟩, if_pos rfl]
/-- m by 2 ** k, m from 0 on: the root below and what is more -/
theorem croot_shift {m : Int} {k : Nat} (h : 0 ≤ m) : croot (-(-m / 2 ^ k)) = froot (m / 2 ^ k) + (if froot (m / 2 ^ k) * froot (m / 2 ^ k) * 2 ^ k < m then 1 else 0) := by
  have hp := pow_pos2 k
  have hf : 0 ≤ m / 2 ^ k := Int.ediv_nonneg h (by omega)
  obtain ⟨r0, r1, r2⟩ := froot_spec hf
  have d1 := Int.mul_ediv_add_emod m (2 ^ k)
  have d2 := Int.emod_nonneg m (show (2 : Int) ^ k ≠ 0 by omega)
  have d3 := Int.emod_lt_of_pos m hp
  have c1 := Int.mul_ediv_add_emod (-m) (2 ^ k)
  have c2 := Int.emod_nonneg (-m) (show (2 : Int) ^ k ≠ 0 by omega)
  have c3 := Int.emod_lt_of_pos (-m) hp
  generalize hy : (2 : Int) ^ k = y at *
  generalize m / y = q at *
  generalize m % y = t at *
  generalize -m / y = p at *
  generalize -m % y = u at *
  generalize froot q = r at *
  have e0 : y * (q + p) = -(t + u) := by
    rw [Int.mul_add]
    omega
  by_cases hlt : r * r * y < m
  · rw [if_pos hlt]
    refine croot_of r0 ?_ ?_
    · rcases Int.lt_or_le (r * r) (-p) with z | z
      · exact z
      · have h1 : y * (-p) ≤ y * (r * r) := Int.mul_le_mul_of_nonneg_left z (by omega)
        rw [Int.mul_neg, Int.mul_comm y (r * r)] at h1
        omega
    · have h1 : -p ≤ q + 1 := by
        rcases Int.lt_or_le (q + 1) (-p) with z | z
        · have h2 : y * (q + p) ≤ y * (-2) := Int.mul_le_mul_of_nonneg_left (by omega) (by omega)
          omega
        · exact z
      omega
  · rw [if_neg hlt, Int.add_zero]
    have h1 : r * r * y ≤ q * y := Int.mul_le_mul_of_nonneg_right r1 (by omega)
    rw [Int.mul_comm q y] at h1
    have t0 : t = 0 := by omega
    have e1 : y * q = m := by omega
    have e2 : y * (r * r) = y * q := by
      rw [Int.mul_comm y (r * r)]
      omega
    have e3 : r * r = q := Int.eq_of_mul_eq_mul_left (by omega) e2
    have e4 : y * (-p) = y * q + u := by
      rw [Int.mul_neg]
      omega
    have e5 : -p = q := by
      rcases Int.lt_trichotomy (-p) q with z | z | z
      · have h2 : y * (-p) ≤ y * (q - 1) := Int.mul_le_mul_of_nonneg_left (by omega) (by omega)
        rw [Int.mul_sub] at h2
        omega
      · exact z
      · have h2 : y * (q + 1) ≤ y * (-p) := Int.mul_le_mul_of_nonneg_left (by omega) (by omega)
        rw [Int.mul_add] at h2
        omega
    rw [e5, ← e3]
    exact croot_sq r0
theorem croot_plain {x : Int} (h : 0 ≤ x) : croot x = froot x + (if froot x * froot x < x then 1 else 0) := by
  have hr := froot_spec h
  unfold croot
  by_cases z : froot x * froot x = x
  · rw [if_pos z, if_neg (by omega), Int.add_zero]
  · rw [if_neg z, if_pos (by have := hr.2.1; omega)]
def spWithin (K : PySem.W.Frag) : Sp := fun vs H Q _ => ∃ i l m : Int, vs = [.int i, .int l, .int m] ∧ Q (.bl (decide (l ≤ i) && decide (i ≤ m))) H
def spNeedW (K : PySem.W.Frag) : Sp := fun vs H Q _ => ∃ i l m : Int, vs = [.int i, .int l, .int m] ∧ l ≤ i ∧ i ≤ m ∧ Q .non H
def spFRoot : Sp := fun vs H Q _ => ∃ n : Int, vs = [.int n] ∧ 0 ≤ n ∧ n.natAbs < 2 ^ 8000 ∧ ∀ H', Ex H H' → Q (.int (froot n)) H'
def spCRoot : Sp := fun vs H Q _ => ∃ n : Int, vs = [.int n] ∧ 0 ≤ n ∧ n.natAbs < 2 ^ 8000 ∧ ∀ H', Ex H H' → Q (.int (croot n)) H'
def spFloorG (K : PySem.W.Frag) : Sp := fun vs H Q _ => ∃ v n E, vs = [v, .int E] ∧ NumAt K H v n ∧ Bd n LIM ∧ E.natAbs ≤ LIM ∧ Q (.int (fl n E)) H
def spCeilG (K : PySem.W.Frag) : Sp := fun vs H Q _ => ∃ v n E, vs = [v, .int E] ∧ NumAt K H v n ∧ Bd n LIM ∧ E.natAbs ≤ LIM ∧ ∀ H', Ex H H' → Q (.int (cl n E)) H'
def spQuo (K : PySem.W.Frag) : Sp := fun vs H Q _ => ∃ u v a b, ∃ bits : Int, vs = [u, v, .int bits] ∧ NumAt K H u a ∧ NumAt K H v b ∧ Bd a 3000 ∧ Bd b 3000 ∧ b.1 ≠ 0 ∧ 0 ≤ bits ∧ bits ≤ 800 ∧ Q (.int (fq a b bits)) H
/-! ### lists of whole numbers -/
def IsMin (m : Int) (l : List Int) : Prop := m ∈ l ∧ ∀ y, y ∈ l → m ≤ y
def IsMax (m : Int) (l : List Int) : Prop := m ∈ l ∧ ∀ y, y ∈ l → y ≤ m
theorem min_unique {m n : Int} {l : List Int} (h1 : IsMin m l) (h2 : IsMin n l) : m = n := by
  have := h1.2 n h2.1
  have := h2.2 m h1.1
  omega
theorem max_unique {m n : Int} {l : List Int} (h1 : IsMax m l) (h2 : IsMax n l) : m = n := by
  have := h1.2 n h2.1
  have := h2.2 m h1.1
  omega
def NthI (ls : List Int) (i : Nat) (_ : Hp) (v : V) : Prop := ∃ x, ls[i]? = some x ∧ v = .int x
theorem nthI_mono {ls : List Int} : ∀ i, Mono (NthI ls i) := fun _ _ _ _ _ h => h
theorem nthI_keep {ls : List Int} : Keep1 (NthI ls) := fun _ _ _ _ _ _ h _ _ => h
theorem nth_ints : ∀ {vs : List V} {ls : List Int} {H : Hp}, vs.length = ls.length → (∀ i v, vs[i]? = some v → NthI ls i H v) → vs = ls.map V.int
  | [], [], _, _, _ => rfl
  | v :: vs, x :: ls, H, hl, h => by
    obtain ⟨y, hy, e⟩ := h 0 v rfl
    have e1 : x = y := Option.some.inj hy
    rw [e, e1, List.map_cons, nth_ints (H := H) (Nat.succ.inj hl) fun i w hw => h (i + 1) w hw]
def IP (S : Int → Prop) (_ : Hp) (v : V) : Prop := ∃ m, v = .int m ∧ S m
section
variable {K : PySem.W.Frag} {σ : L2.St} {H : Hp} {tl ta tb : TE} {ls : List Int} {n : Nat}
theorem evp_min (h : EvLI (NthI ls) tl σ H n) (hn : n = ls.length) (h0 : 0 < n) : EvP (IP fun m => IsMin m ls) (tCB (rMin K) (tCons tl tNil)) σ H := fun H1 e Q q =>
  h H1 e _ fun p vs H2 e2 _ hp hl hall => ⟨p, ls, rfl, by rw [← nth_ints (hl.trans hn) hall]; exact sq_of hp, by omega, fun m hm hy => q _ H2 e2 ⟨m, rfl, hm, hy⟩⟩
theorem evp_max (h : EvLI (NthI ls) tl σ H n) (hn : n = ls.length) (h0 : 0 < n) : EvP (IP fun m => IsMax m ls) (tCB (rMax K) (tCons tl tNil)) σ H := fun H1 e Q q =>
  h H1 e _ fun p vs H2 e2 _ hp hl hall => ⟨p, ls, rfl, by rw [← nth_ints (hl.trans hn) hall]; exact sq_of hp, by omega, fun m hm hy => q _ H2 e2 ⟨m, rfl, hm, hy⟩⟩
end
theorem fdiv_abs (x y : Int) : (x.fdiv y).natAbs ≤ x.natAbs := by
  rcases Int.lt_or_le y 0 with z | z
  · rw [← fdiv_flip, Int.fdiv_eq_ediv_of_nonneg (-x) (by omega)]
    have := Int.natAbs_ediv_le_natAbs (-x) (-y)
    omega
  · rw [Int.fdiv_eq_ediv_of_nonneg x z]
    exact Int.natAbs_ediv_le_natAbs x y
theorem fq_abs {a b : Int × Int} {bits : Int} (ha : Bd a 2300) (hb : Bd b 2300) (h0 : 0 ≤ bits) (h8 : bits ≤ 800) : (fq a b bits).natAbs < 2 ^ 7800 := by
  have a2 := ha.2
  have b2 := hb.2
  unfold fq
  by_cases l : a.2 - b.2 + bits < 0
  · rw [if_pos l]
    exact Nat.lt_of_le_of_lt (fdiv_abs _ _) (Nat.lt_of_lt_of_le ha.1 (Nat.pow_le_pow_right (by decide) (by decide)))
  · rw [if_neg l]
    refine Nat.lt_of_le_of_lt (fdiv_abs _ _) ?_
    have e2 : ((2 : Int) ^ (a.2 - b.2 + bits).toNat).natAbs = 2 ^ (a.2 - b.2 + bits).toNat := by
      rw [← pow_two_cast]
      rfl
    rw [Int.natAbs_mul, e2]
    refine Nat.lt_of_lt_of_le (Nat.mul_lt_mul_of_pos_right ha.1 (Nat.pow_pos (by decide))) ?_
    rw [← Nat.pow_add]
    exact Nat.pow_le_pow_right (by decide) (by omega)
theorem fl_at {n : Int × Int} {E F : Int} (h1 : F ≤ n.2) (h2 : F ≤ E) : fl n E = at_ n F / 2 ^ (E - F).toNat := by
  unfold fl
  by_cases l : E ≤ n.2
  · rw [if_pos l, at_split (E := F) (M := E) h2 l, Int.mul_ediv_cancel _ (Int.ne_of_gt (pow_pos2 _))]
    rfl
  · rw [if_neg l]
    unfold at_
    rw [show (E - F).toNat = (E - n.2).toNat + (n.2 - F).toNat by omega, Int.pow_add, Int.mul_ediv_mul_of_pos_left _ _ (pow_pos2 _)]
theorem fl_le_cl {a b : Int × Int} {E : Int} (h : pord a b ≤ 0) : fl a E ≤ cl b E := by
  have l1 : min (min a.2 b.2) E ≤ a.2 := by omega
  have l2 : min (min a.2 b.2) E ≤ b.2 := by omega
  have l3 : min (min a.2 b.2) E ≤ E := by omega
  generalize min (min a.2 b.2) E = F at *
  unfold cl
  rw [fl_at l1 l3, fl_at (n := pneg b) l2 l3, at_neg]
  rw [pord_at l1 l2] at h
  have hab := sgn_le h
  have hp := pow_pos2 (E - F).toNat
  generalize (2 : Int) ^ (E - F).toNat = y at *
  have h1 : at_ a F / y ≤ at_ b F / y := Int.ediv_le_ediv hp (by omega)
  have h2 := fdiv_pos_sum (x := at_ b F) hp
  rw [Int.fdiv_eq_ediv_of_nonneg _ (by omega), Int.fdiv_eq_ediv_of_nonneg _ (by omega)] at h2
  omega
theorem froot_mono {x y : Int} (h0 : 0 ≤ x) (h : x ≤ y) : froot x ≤ froot y := by
  have a := froot_spec h0
  have b := froot_spec (show 0 ≤ y by omega)
  rcases Int.lt_or_le (froot y) (froot x) with z | z
  · have := sq_mono (a := froot y + 1) (b := froot x) (by have := b.1; omega) (by omega)
    have := a.2.1
    have := b.2.2
    omega
  · exact z
theorem froot_le_croot {x y : Int} (h0 : 0 ≤ x) (h : x ≤ y) : froot x ≤ croot y := by
  have := froot_mono h0 h
  unfold croot
  by_cases z : froot y * froot y = y
  · rw [if_pos z]
    exact this
  · rw [if_neg z]
    omega
theorem froot_abs {n : Int} {k : Nat} (h0 : 0 ≤ n) (hb : n.natAbs < 2 ^ k) : (froot n).natAbs < 2 ^ k := by
  have hr := froot_spec h0
  by_cases z : froot n ≤ n
  · have := hr.1
    omega
  · have := hr.2.1
    have h1 := hr.1
    have h3 : froot n * 1 ≤ froot n * froot n := Int.mul_le_mul_of_nonneg_left (by omega) h1
    omega
theorem croot_abs {n : Int} {k : Nat} (h0 : 0 ≤ n) (hb : n.natAbs < 2 ^ k) : (croot n).natAbs < 2 ^ (k + 1) := by
  have h1 := froot_abs h0 hb
  have h2 := (froot_spec h0).1
  have e : 2 ^ (k + 1) = 2 ^ k * 2 := Nat.pow_succ ..
  have hp : 0 < 2 ^ k := Nat.pow_pos (by decide)
  unfold croot
  by_cases z : froot n * froot n = n
  · rw [if_pos z]
    omega
  · rw [if_neg z]
    omega
theorem fl_abs {n : Int × Int} {E : Int} (h : Bd n 2300) (hE : E.natAbs ≤ 1600) : (fl n E).natAbs < 2 ^ 6300 := by
  have h2 := h.2
  unfold fl
  by_cases l : E ≤ n.2
  · rw [if_pos l]
    have e2 : ((2 : Int) ^ (n.2 - E).toNat).natAbs = 2 ^ (n.2 - E).toNat := by
      rw [← pow_two_cast]
      rfl
    rw [Int.natAbs_mul, e2]
    refine Nat.lt_of_lt_of_le (Nat.mul_lt_mul_of_pos_right h.1 (Nat.pow_pos (by decide))) ?_
    rw [← Nat.pow_add]
    exact Nat.pow_le_pow_right (by decide) (by omega)
  · rw [if_neg l]
    exact Nat.lt_of_le_of_lt (Int.natAbs_ediv_le_natAbs _ _) (Nat.lt_of_lt_of_le h.1 (Nat.pow_le_pow_right (by decide) (by decide)))
theorem cl_abs {n : Int × Int} {E : Int} (h : Bd n 2300) (hE : E.natAbs ≤ 1600) : (cl n E).natAbs < 2 ^ 6300 := by
  unfold cl
  rw [Int.natAbs_neg]
  exact fl_abs (bd_neg h) hE
/-! ### roots by doubling the bits -/
theorem sq_nonneg (x : Int) : 0 ≤ x * x := by
  rcases Int.le_total 0 x with h | h
  · exact Int.mul_nonneg h h
  · exact Int.mul_nonneg_of_nonpos_of_nonpos h h
/-- one step: t the half of the guess, w its doubt -/
theorem dbl_low {t w m q : Int} (ht : 0 < t) (hw : 0 ≤ w) (h1 : (2 * t - w) * (2 * t - w) < m) (h2 : m < (2 * t + w) * (2 * t + w)) (hwt : w * w ≤ 4 * t) (hq : 4 * t * q ≤ m) (hy : 0 ≤ t + q - 1) : (t + q - 1) * (t + q - 1) < m := by
  refine Decidable.byContradiction fun hc => ?_
  have hc : m ≤ (t + q - 1) * (t + q - 1) := by omega
  obtain ⟨y, hyd⟩ : ∃ y, y = t + q - 1 := ⟨_, rfl⟩
  rw [← hyd] at hc hy
  have hq' : 4 * t * q = 4 * (t * y) - 4 * (t * t) + 4 * t := by
    have : q = y - t + 1 := by omega
    rw [this, Int.mul_add, Int.mul_sub, Int.mul_assoc, Int.mul_assoc]
    omega
  rcases Int.lt_or_le y (2 * t + w) with a | a
  · rcases Int.lt_or_le (2 * t - w) y with b | b
    · -- within the doubt
      have e : (2 * t - y) * (2 * t - y) < w * w := by
        have n1 : 0 ≤ w - (2 * t - y) := by omega
        have n2 : 0 ≤ w + (2 * t - y) := by omega
        rcases Int.lt_or_le 0 w with z | z
        · have n3 : 0 < w - (2 * t - y) := by omega
          have n4 : 0 < w + (2 * t - y) := by omega
          have := Int.mul_pos n3 n4
          rw [Int.sub_mul, Int.mul_add, Int.mul_add, Int.mul_comm w (2 * t - y)] at this
          omega
        · omega
      have e2 : (2 * t - y) * (2 * t - y) = 4 * (t * t) - 4 * (t * y) + y * y := by
        rw [Int.sub_mul, Int.mul_sub, Int.mul_sub, Int.mul_comm y (2 * t), Int.mul_assoc, Int.mul_assoc, Int.mul_left_comm t 2 t]
        omega
      omega
    · have := sq_mono hy b
      omega
  · have e : (2 * t + w) * (2 * t + w) = 4 * (t * t) + 4 * (t * w) + w * w := by
      rw [Int.add_mul, Int.mul_add, Int.mul_add, Int.mul_comm w (2 * t), Int.mul_assoc, Int.mul_assoc, Int.mul_left_comm t 2 t]
      omega
    have e3 : t * (2 * t + w) ≤ t * y := Int.mul_le_mul_of_nonneg_left a (by omega)
    rw [Int.mul_add, Int.mul_left_comm t 2 t] at e3
    omega
theorem dbl_high {t m q : Int} (hq : m < 4 * t * (q + 1)) : m < (t + q + 1) * (t + q + 1) := by
  have e : (t + q + 1) * (t + q + 1) - 4 * t * (q + 1) = (t - (q + 1)) * (t - (q + 1)) := by
    rw [Int.add_assoc t q 1]
    generalize q + 1 = r
    rw [Int.add_mul, Int.mul_add, Int.mul_add, Int.sub_mul, Int.mul_sub, Int.mul_sub, Int.mul_assoc, Int.mul_comm r t]
    omega
  have := sq_nonneg (t - (q + 1))
  omega
/-- what is known of the root of the first bits -/
def Near (a n : Int) (c d : Nat) : Prop := 0 < a ∧ (a - 1) * (a - 1) < n / 2 ^ (2 * (c - d)) ∧ n / 2 ^ (2 * (c - d)) < (a + 1) * (a + 1)
theorem pow_sq (k : Nat) : (2 : Int) ^ (2 * k) = 2 ^ k * 2 ^ k := by rw [Nat.two_mul, Int.pow_add]
theorem near_ge {a n : Int} {c d : Nat} (hd : d ≤ c) (hn : 2 ^ (2 * c) ≤ n) (h : Near a n c d) : (2 : Int) ^ d ≤ a := by
  obtain ⟨h0, _, h2⟩ := h
  have e1 : (2 : Int) ^ (2 * d) ≤ n / 2 ^ (2 * (c - d)) := by
    refine (Int.le_ediv_iff_mul_le (pow_pos2 _)).mpr ?_
    rw [← Int.pow_add, show 2 * d + 2 * (c - d) = 2 * c by omega]
    exact hn
  rw [pow_sq] at e1
  refine Decidable.byContradiction fun z => ?_
  have := sq_mono (a := a + 1) (b := 2 ^ d) (by omega) (by omega)
  omega
theorem near_step {a n : Int} {c e d : Nat} (hn : 2 ^ (2 * c) ≤ n) (hdc : d ≤ c) (h1 : e < d) (h2 : d ≤ 2 * e + 1) (h : Near a n c e) :
    Near (a * 2 ^ (d - e - 1) + (n / 2 ^ (2 * c - e - d + 1)) / a) n c d := by
  have hA := near_ge (by omega) hn h
  obtain ⟨h0, hl, hh⟩ := h
  obtain ⟨m, hm⟩ : ∃ m, m = n / 2 ^ (2 * (c - d)) := ⟨_, rfl⟩
  obtain ⟨t, ht⟩ : ∃ t, t = a * 2 ^ (d - e - 1) := ⟨_, rfl⟩
  obtain ⟨w, hw⟩ : ∃ w : Int, w = 2 ^ (d - e) := ⟨_, rfl⟩
  have t0 : 0 < t := by rw [ht]; exact Int.mul_pos h0 (pow_pos2 _)
  have w0 : 0 < w := by rw [hw]; exact pow_pos2 _
  have hw1 : w = 2 ^ (d - e - 1) * 2 := by
    rw [hw, ← Int.pow_succ]
    congr 1
    omega
  have e2t : 2 * t = a * w := by
    rw [ht, hw1, Int.mul_comm _ (2 : Int), Int.mul_left_comm a 2]
  have em : n / 2 ^ (2 * (c - e)) = m / (w * w) := by
    rw [hm, hw, ← pow_sq, Int.ediv_ediv_of_nonneg (Int.le_of_lt (pow_pos2 _)), ← Int.pow_add, show 2 * (c - d) + 2 * (d - e) = 2 * (c - e) by omega]
  have eq : (n / 2 ^ (2 * c - e - d + 1)) / a = m / (4 * t) := by
    have : n / 2 ^ (2 * c - e - d + 1) = m / 2 ^ (d - e + 1) := by
      rw [hm, Int.ediv_ediv_of_nonneg (Int.le_of_lt (pow_pos2 _)), ← Int.pow_add, show 2 * (c - d) + (d - e + 1) = 2 * c - e - d + 1 by omega]
    rw [this, Int.ediv_ediv_of_nonneg (Int.le_of_lt (pow_pos2 _))]
    congr 1
    have e4 : 4 * t = 2 * (a * w) := by omega
    rw [e4, hw, Int.pow_succ, Int.mul_comm a, ← Int.mul_assoc 2, Int.mul_comm 2]
  rw [em] at hl hh
  rw [eq, ← ht]
  unfold Near
  rw [← hm]
  have ww : 0 < w * w := Int.mul_pos w0 w0
  have m0 : 0 ≤ m := by
    rw [hm]
    exact Int.ediv_nonneg (Int.le_trans (Int.le_of_lt (pow_pos2 _)) hn) (Int.le_of_lt (pow_pos2 _))
  have q0 : 0 ≤ m / (4 * t) := Int.ediv_nonneg m0 (by omega)
  refine ⟨by omega, ?_, ?_⟩
  · refine dbl_low t0 (by omega) (w := w) ?_ ?_ ?_ (Int.mul_ediv_self_le (by omega)) (by omega)
    · have l1 : (a - 1) * (a - 1) + 1 ≤ m / (w * w) := hl
      have l2 := (Int.le_ediv_iff_mul_le ww).mp l1
      have l3 : (2 * t - w) * (2 * t - w) = (a - 1) * (a - 1) * (w * w) := by
        have : 2 * t - w = (a - 1) * w := by rw [Int.sub_mul, Int.one_mul, e2t]
        rw [this, Int.mul_assoc, Int.mul_left_comm w (a - 1) w, ← Int.mul_assoc]
      rw [Int.add_mul] at l2
      omega
    · have l2 := (Int.ediv_lt_iff_lt_mul ww).mp hh
      have l3 : (2 * t + w) * (2 * t + w) = (a + 1) * (a + 1) * (w * w) := by
        have : 2 * t + w = (a + 1) * w := by rw [Int.add_mul, Int.one_mul, e2t]
        rw [this, Int.mul_assoc, Int.mul_left_comm w (a + 1) w, ← Int.mul_assoc]
      omega
    · have w2 : w ≤ 2 * a := by
        have : w = 2 * 2 ^ (d - e - 1) := by
          rw [hw1, Int.mul_comm]
        have l : (2 : Int) ^ (d - e - 1) ≤ 2 ^ e := by
          rw [← pow_two_cast, ← pow_two_cast]
          exact Int.ofNat_le.mpr (Nat.pow_le_pow_right (by decide) (by omega))
        omega
      have : w * w ≤ 2 * a * w := Int.mul_le_mul_of_nonneg_right w2 (by omega)
      rw [Int.mul_assoc] at this
      omega
  · refine dbl_high ?_
    have := Int.lt_mul_ediv_self_add (x := m) (show 0 < 4 * t by omega)
    rw [Int.mul_add, Int.mul_one]
    exact this
theorem near_end {a n : Int} {c : Nat} (h : Near a n c c) : froot n = if a * a ≤ n then a else a - 1 := by
  obtain ⟨h0, h1, h2⟩ := h
  rw [show 2 * (c - c) = 0 by omega, Int.pow_zero, Int.ediv_one] at h1 h2
  by_cases z : a * a ≤ n
  · rw [if_pos z]
    exact froot_of ⟨by omega, z, h2⟩
  · rw [if_neg z]
    refine froot_of ⟨by omega, by omega, ?_⟩
    rw [show a - 1 + 1 = a by omega]
    omega
theorem near_start {n : Int} {c : Nat} (h1 : 2 ^ (2 * c) ≤ n) (h2 : n < 2 ^ (2 * c + 2)) : Near 1 n c 0 := by
  refine ⟨by decide, ?_, ?_⟩
  · show (0 : Int) < n / 2 ^ (2 * (c - 0))
    have := (Int.le_ediv_iff_mul_le (pow_pos2 (2 * (c - 0)))).mpr (show 1 * 2 ^ (2 * (c - 0)) ≤ n by rw [Int.one_mul]; exact h1)
    omega
  · refine (Int.ediv_lt_iff_lt_mul (pow_pos2 _)).mpr ?_
    have e : ((1 : Int) + 1) * (1 + 1) * 2 ^ (2 * (c - 0)) = 2 ^ (2 * c + 2) := by
      rw [Int.pow_add, Int.mul_comm]
      rfl
    rw [e]
    exact h2
theorem near_abs {a n : Int} {c d : Nat} {k : Nat} (h : Near a n c d) (h0 : 0 ≤ n) (hn : n.natAbs < 2 ^ (2 * k)) : a.natAbs < 2 ^ k + 2 := by
  obtain ⟨h1, h2, _⟩ := h
  have l : n / 2 ^ (2 * (c - d)) ≤ n := Int.ediv_le_self _ h0
  refine Decidable.byContradiction fun z => ?_
  have p := pow_two_cast k
  have e2 : ((2 : Int) ^ k) ≤ a - 1 := by omega
  have := sq_mono (Int.le_of_lt (pow_pos2 k)) e2
  rw [← pow_sq, ← pow_two_cast] at this
  omega
/-! ### quotients of ends -/
def four (a b c d : Int × Int) : List ((Int × Int) × (Int × Int)) := [(a, c), (a, d), (b, c), (b, d)]
theorem four_mem {a b c d : Int × Int} {q : (Int × Int) × (Int × Int)} (h : q ∈ four a b c d) : (q.1 = a ∨ q.1 = b) ∧ (q.2 = c ∨ q.2 = d) := by
  simp only [four, List.mem_cons, List.not_mem_nil, or_false] at h
  rcases h with h | h | h | h <;> rw [h] <;> simp
def ql (a b c d : Int × Int) (bits : Int) : List Int := (four a b c d).map fun q => fq q.1 q.2 bits
def qh (a b c d : Int × Int) (bits : Int) : List Int := (four a b c d).map fun q => -fq (pneg q.1) q.2 bits
theorem at_pos {a : Int × Int} {E : Int} (h : 0 < a.1) : 0 < at_ a E := Int.mul_pos h (pow_pos2 _)
theorem fq_at {a b : Int × Int} {E bits : Int} (ha : E ≤ a.2) (hb : E ≤ b.2) (hp : 0 < b.1) (h0 : 0 ≤ bits) : fq a b bits = at_ a E * 2 ^ bits.toNat / at_ b E := by
  unfold fq at_
  have e1 : a.1 * 2 ^ (a.2 - E).toNat * 2 ^ bits.toNat = a.1 * 2 ^ ((a.2 - E).toNat + bits.toNat) := by rw [Int.mul_assoc, ← Int.pow_add]
  rw [e1]
  by_cases z : a.2 - b.2 + bits < 0
  · rw [if_pos z, Int.fdiv_eq_ediv_of_nonneg _ (Int.le_of_lt (Int.mul_pos hp (pow_pos2 _)))]
    have e2 : b.1 * 2 ^ (b.2 - E).toNat = b.1 * 2 ^ (-(a.2 - b.2 + bits)).toNat * 2 ^ ((a.2 - E).toNat + bits.toNat) := by
      rw [Int.mul_assoc, ← Int.pow_add, show (-(a.2 - b.2 + bits)).toNat + ((a.2 - E).toNat + bits.toNat) = (b.2 - E).toNat by omega]
    rw [e2, Int.mul_ediv_mul_of_pos_left _ _ (pow_pos2 _)]
  · rw [if_neg z, Int.fdiv_eq_ediv_of_nonneg _ (Int.le_of_lt hp)]
    have e2 : a.1 * 2 ^ ((a.2 - E).toNat + bits.toNat) = a.1 * 2 ^ (a.2 - b.2 + bits).toNat * 2 ^ (b.2 - E).toNat := by
      rw [Int.mul_assoc, ← Int.pow_add, show (a.2 - b.2 + bits).toNat + (b.2 - E).toNat = (a.2 - E).toNat + bits.toNat by omega]
    rw [e2, Int.mul_ediv_mul_of_pos_left _ _ (pow_pos2 _)]
theorem div_anti {x b d : Int} (hx : 0 ≤ x) (hb : 0 < b) (h : b ≤ d) : x / d ≤ x / b := by
  refine (Int.le_ediv_iff_mul_le hb).mpr ?_
  have h1 : x / d * b ≤ x / d * d := Int.mul_le_mul_of_nonneg_left h (Int.ediv_nonneg hx (by omega))
  have h2 := Int.mul_ediv_self_le (x := x) (k := d) (by omega)
  rw [Int.mul_comm] at h2
  omega
theorem div_mono {x b d : Int} (hx : x ≤ 0) (hb : 0 < b) (h : b ≤ d) : x / b ≤ x / d := by
  refine (Int.le_ediv_iff_mul_le (show 0 < d by omega)).mpr ?_
  have n : x / b ≤ 0 := by
    have := Int.ediv_le_ediv hb hx
    rw [Int.zero_ediv] at this
    exact this
  have h1 : x / b * d ≤ x / b * b := Int.mul_le_mul_of_nonpos_left n h
  have h2 := Int.mul_ediv_self_le (x := x) (k := b) (by omega)
  rw [Int.mul_comm] at h2
  omega
theorem sgn_pord0 (n : Int × Int) : pord n (0, 0) = sgn n.1 := by
  rw [pord_at (E := min n.2 0) (by omega) (by show min n.2 0 ≤ 0; omega)]
  have e : at_ (0, 0) (min n.2 0) = 0 := Int.zero_mul _
  rw [e, Int.sub_zero, at_sgn]
/-- the least of the quotients, by a number that is no greater than the others -/
theorem quo_min {x y c d z : Int × Int} {bits : Int} (hxy : pord x y ≤ 0) (hcd : pord c d ≤ 0) (hz : z = c ∨ z = d) (hc : 0 < c.1) (hd : 0 < d.1) (h0 : 0 ≤ bits) (h : (0 ≤ x.1 ∧ z = d) ∨ (x.1 ≤ 0 ∧ z = c)) :
    fq x z bits ≤ fq x c bits ∧ fq x z bits ≤ fq x d bits ∧ fq x z bits ≤ fq y c bits ∧ fq x z bits ≤ fq y d bits := by
  obtain ⟨E, hx, hy, hc2, hd2, _⟩ := low4 x y c d
  have A := (ord_at hx hy).mp hxy
  have C := (ord_at hc2 hd2).mp hcd
  have pc : 0 < at_ c E := at_pos hc
  have pd : 0 < at_ d E := at_pos hd
  have P : at_ x E * 2 ^ bits.toNat ≤ at_ y E * 2 ^ bits.toNat := Int.mul_le_mul_of_nonneg_right A (Int.le_of_lt (pow_pos2 _))
  have m1 := Int.ediv_le_ediv pc P
  have m2 := Int.ediv_le_ediv pd P
  rw [fq_at hx hc2 hc h0, fq_at hx hd2 hd h0, fq_at hy hc2 hc h0, fq_at hy hd2 hd h0]
  rcases h with ⟨s, e⟩ | ⟨s, e⟩
  · rw [e, fq_at hx hd2 hd h0]
    have n : 0 ≤ at_ x E * 2 ^ bits.toNat := Int.mul_nonneg (at_nonneg s) (Int.le_of_lt (pow_pos2 _))
    have := div_anti n pc C
    omega
  · rw [e, fq_at hx hc2 hc h0]
    have n : at_ x E * 2 ^ bits.toNat ≤ 0 := Int.mul_nonpos_of_nonpos_of_nonneg (at_nonpos s) (Int.le_of_lt (pow_pos2 _))
    have := div_mono n pc C
    omega
theorem pos_of_le {c d : Int × Int} (hcd : pord c d ≤ 0) (hc : 0 < c.1) : 0 < d.1 := by
  obtain ⟨E, h1, h2, _, _⟩ := low3 c d d
  have C := (ord_at h1 h2).mp hcd
  have pc : 0 < at_ c E := at_pos hc
  rcases Int.lt_or_le 0 d.1 with z | z
  · exact z
  · have : at_ d E ≤ 0 := at_nonpos z
    omega
theorem quo_ends {a b c d : Int × Int} {bits : Int} (hab : pord a b ≤ 0) (hcd : pord c d ≤ 0) (hc : 0 < c.1) (h0 : 0 ≤ bits) :
    IsMin (fq a (if 0 ≤ a.1 then d else c) bits) (ql a b c d bits) ∧ IsMax (-fq (pneg b) (if 0 ≤ b.1 then c else d) bits) (qh a b c d bits) := by
  have hd := pos_of_le hcd hc
  constructor
  · obtain ⟨h1, h2, h3, h4⟩ := quo_min (z := if 0 ≤ a.1 then d else c) hab hcd (by by_cases z : 0 ≤ a.1; (rw [if_pos z]; exact .inr rfl); (rw [if_neg z]; exact .inl rfl)) hc hd h0 (by by_cases z : 0 ≤ a.1; (rw [if_pos z]; exact .inl ⟨z, rfl⟩); (rw [if_neg z]; exact .inr ⟨by omega, rfl⟩))
    refine ⟨?_, fun y hy => ?_⟩
    · by_cases z : 0 ≤ a.1
      · rw [if_pos z]; simp [ql, four]
      · rw [if_neg z]; simp [ql, four]
    · simp only [ql, four, List.map_cons, List.map_nil, List.mem_cons, List.not_mem_nil, or_false] at hy
      rcases hy with rfl | rfl | rfl | rfl <;> assumption
  · have hba : pord (pneg b) (pneg a) ≤ 0 := by rw [pord_neg]; exact hab
    obtain ⟨h1, h2, h3, h4⟩ := quo_min (z := if 0 ≤ b.1 then c else d) hba hcd (by by_cases z : 0 ≤ b.1; (rw [if_pos z]; exact .inl rfl); (rw [if_neg z]; exact .inr rfl)) hc hd h0 (by by_cases z : 0 ≤ b.1; (rw [if_pos z]; exact .inr ⟨by show -b.1 ≤ 0; omega, rfl⟩); (rw [if_neg z]; exact .inl ⟨by show 0 ≤ -b.1; omega, rfl⟩))
    refine ⟨?_, fun y hy => ?_⟩
    · by_cases z : 0 ≤ b.1
      · rw [if_pos z]; simp [qh, four]
      · rw [if_neg z]; simp [qh, four]
    · simp only [qh, four, List.map_cons, List.map_nil, List.mem_cons, List.not_mem_nil, or_false] at hy
      rcases hy with rfl | rfl | rfl | rfl <;> omega
theorem ql_neg {a b c d : Int × Int} {bits m : Int} (h : IsMin m (ql (pneg b) (pneg a) (pneg d) (pneg c) bits)) : IsMin m (ql a b c d bits) := by
  simp only [ql, four, List.map_cons, List.map_nil, fq_neg] at h
  obtain ⟨h1, h2⟩ := h
  simp only [List.mem_cons, List.not_mem_nil, or_false] at h1 h2
  refine ⟨?_, fun y hy => h2 y ?_⟩ <;> simp only [ql, four, List.map_cons, List.map_nil, List.mem_cons, List.not_mem_nil, or_false] at *
  · rcases h1 with z | z | z | z <;> simp [z]
  · rcases hy with z | z | z | z <;> simp [z]
theorem qh_neg {a b c d : Int × Int} {bits m : Int} (h : IsMax m (qh (pneg b) (pneg a) (pneg d) (pneg c) bits)) : IsMax m (qh a b c d bits) := by
  have e : ∀ x y : Int × Int, fq (pneg (pneg x)) (pneg y) bits = fq (pneg x) y bits := fun x y => fq_neg
  simp only [qh, four, List.map_cons, List.map_nil, e] at h
  obtain ⟨h1, h2⟩ := h
  simp only [List.mem_cons, List.not_mem_nil, or_false] at h1 h2
  refine ⟨?_, fun y hy => h2 y ?_⟩ <;> simp only [qh, four, List.map_cons, List.map_nil, List.mem_cons, List.not_mem_nil, or_false] at *
  · rcases h1 with z | z | z | z <;> simp [z]
  · rcases hy with z | z | z | z <;> simp [z]
end Onc

namespace Onc
open PySem PySem.Spec PyProof.Rows L2 Evl
/-! ### tables of the module: tuple(d), the items that are tuples -/
section
variable {prog : Program} {w : World} {A : Around} {E : Value → Shared → Prop} {s : Shared} {T : String} {r d : Addr} {n : Nat} {P : Nat → Value → Prop} {OK : Heap → Prop}
theorem collect_src {Q : List Value → Shared → Prop} (K : PySem.W.KdlSrc prog w T r d n P OK) (hh : A.handled = none) (hok : OK s.heap) (hn : n ≤ sizeLine)
    (hQ : ∀ (h' : Heap) (tk : Nat) (acc : Array Value), (∀ b o, s.heap.get? b = some o → h'.get? b = some o) → ItemsOf P acc n → Q acc.toList { s with heap := h', toks := tk }) :
    wpAny (model prog w) A (collect (.ref r)) Q E s := by
  unfold collect; refine wpAny_bind (wpAny_runValue (codeAny_builtin F.entry_proto_collect ?_)); rw [Around.under_plainId F.plain_proto_collect _]
  show wpAny _ A.in1 (newList [] >>= fun z => again (.builtin "list.__iadd__" ⟨[z, .ref r], []⟩)) _ _ s; refine wpAny_bind (wpAny_newObj_type ?_)
  refine wpAny_pure ⟨plainId_quiet F.plain_list_iadd _, codeAny_builtin F.entry_list_iadd ?_⟩; rw [Around.under_plainId F.plain_list_iadd _]
  show wpAny _ A.in1 (Builtin.List.listExtendWith (.ref s.heap.objs.size) (.ref r) (.ref s.heap.objs.size)) _ _ _
  have hS : (s.heap.push { cls := .type "list", data := .seq ([] : List Value).toArray }).get? s.heap.objs.size = some { cls := .type "list", data := .seq #[] 0 } := Heap.get?_push_size _ rfl
  have lt := K.there _ hok
  refine wpAny_mono (PySem.W.kdl_extend (A := A) (R := fun rr s' => rr = .ok (.ret (.ref s.heap.objs.size)) ∧ ∃ (h' : Heap) (tk : Nat) (acc : Array Value) (c' : Nat), s' = { s with heap := h', toks := tk } ∧
      (∀ b o, s.heap.get? b = some o → h'.get? b = some o) ∧ h'.get? s.heap.objs.size = some { cls := .type "list", dict := none, data := .seq acc c', slots := #[] } ∧ ItemsOf P acc n)
    (s := { s with heap := s.heap.push { cls := .type "list", data := .seq ([] : List Value).toArray } }) K hh (K.keep _ _ hok fun b _ o e => Heap.get?_push_of_some _ e) s.heap.objs.size (Nat.ne_of_gt lt.1) (Nat.ne_of_gt lt.2) _ 0 hS
    (fun h' tk acc c' hk e hi => ⟨rfl, h', tk, acc, c', rfl, fun b o q => hk b o (Nat.ne_of_lt (Heap.lt_size q)) (Heap.get?_push_of_some _ q), e, hi⟩) hn) (fun fin s' h => ?_) (fun e s' h => ?_)
  · cases fin with
    | done f =>
      obtain ⟨e, h', tk, acc, c', rfl, hk, hS', hi⟩ := h
      cases e
      exact wpAny_bind (wpAny_load hS' (wpAny_pure (hQ h' tk acc hk hi)))
    | again c' =>
      refine ⟨h.1, codeAny_mono h.2 fun rr s'' hr' => ?_⟩
      obtain ⟨rfl, h', tk, acc, c', rfl, hk, hS', hi⟩ := hr'
      exact wpAny_bind (wpAny_load hS' (wpAny_pure (hQ h' tk acc hk hi)))
  · exact absurd h.1 (by simp)
theorem tuple_new_src {Q₁ : Value → Shared → Prop} (K : PySem.W.KdlSrc prog w T r d n P OK) (hh : A.handled = none) (hok : OK s.heap) (hn : n ≤ sizeLine)
    (h : ∀ (h' : Heap) (tk : Nat) (acc : Array Value), (∀ b o, s.heap.get? b = some o → h'.get? b = some o) → ItemsOf P acc n → Q₁ (.ref h'.objs.size) { s with heap := h'.push { cls := .type "tuple", data := .seq acc }, toks := tk }) :
    codeAny (model prog w) A (.call (.builtin "tuple.__new__") ⟨[.type "tuple", .ref r], []⟩) (wants Q₁ E) s := by
  refine codeAny_of_tree ?_; show wpAny _ A.in1 (do checkBuiltinCall "tuple.__new__" ⟨[.type "tuple", .ref r], []⟩; again (.builtin "tuple.__new__" ⟨[.type "tuple", .ref r], []⟩)) _ _ s
  refine wpAny_bind (wpAny_of_eq (F.newCall_tuple_1 _) (wpAny_pure ⟨plainId_quiet F.plain_tuple_new _, codeAny_builtin F.entry_tuple_new ?_⟩)); rw [Around.under_plainId F.plain_tuple_new _]
  have a1 := sub_tuple_self
  have a2 := init_tuple_lookup
  have a3 := madeHere_tuple
  have a4 : s.TypeIs (.ref r) T := K.type s hok
  have a5 := K.notTuple
  have a6 : A.in1.handled = none := hh
  wp_walk using wpAny_typeOf a4, collect_src (A := A.in1) K a6 hok hn
  intro h' tk acc hk hacc; show wpAny _ _ (Builtin.Tuple.tupleExact acc.toList.toArray >>= fun z => ret z) _ _ _; unfold Builtin.Tuple.tupleExact
  have e : acc.toList.toArray = acc := by simp
  rw [e]; refine wpAny_bind (wpAny_newObj_type ?_ (by show acc.size ≤ sizeLine; rw [hacc.1]; exact hn)); exact wpAny_pure (h h' tk acc hk hacc)
theorem call_tuple_src {Q : Value → Shared → Prop} (K : PySem.W.KdlSrc prog w T r d n P OK) (hh : A.handled = none) (hok : OK s.heap) (hn : n ≤ sizeLine)
    (hQ : ∀ (h' : Heap) (tk : Nat) (acc : Array Value), (∀ b o, s.heap.get? b = some o → h'.get? b = some o) → ItemsOf P acc n → Q (.ref h'.objs.size) { s with heap := h'.push { cls := .type "tuple", data := .seq acc }, toks := tk }) :
    wpAny (model prog w) A (call (.type "tuple") [.ref r]) Q E s := by
  refine callType_codes (Q₁ := fun z s₁ => s₁.TypeIs z "tuple" ∧ Q z s₁) F.called_tuple (F.typeCall_tuple_1 _) F.entry_object_init (tuple_new_src (A := A.in1) K hh hok hn fun h' tk acc hk hacc => ⟨⟨_, Heap.get?_push_size _ rfl, rfl⟩, hQ h' tk acc hk hacc⟩) fun z s₁ h₁ => ?_
  exact ⟨h₁.1, F.args_object_init_2 z _, object_init_meets F.called_tuple.init.lookup F.called_tuple.made (by decide) prog w A.in1 _ s₁ ⟨h₁.1, rfl, h₁.2⟩⟩
end
/-- the module's table at a, its keys the texts ks in this order -/
structure TabK (K : PySem.W.Frag) (w : World) (a : Addr) (ks : List Str) : Prop where
  d : ∃ es n, KDict K w a es n ∧ es.toList.map He.keyOf = He.keysIn w.params ks ∧ es.size ≤ 1000
theorem keys_vals {P : Params} : ∀ {l : List DictEntry} {ks : List Str}, l.map He.keyOf = He.keysIn P ks → Vals (ks.map V.str) (l.map fun e => e.key)
  | [], [], _ => .nil
  | [], k :: ks, h => by cases h
  | e :: r, [], h => by cases h
  | e :: r, k :: ks, h => by
    have h1 : He.keyOf e :: r.map He.keyOf = some (k, PyData.keyHash P k) :: He.keysIn P ks := h
    injection h1 with h2 h3
    refine .cons ?_ (keys_vals h3)
    unfold He.keyOf at h2
    split at h2
    · rename_i x t q
      obtain ⟨h5, h6⟩ := Prod.mk.inj (Option.some.inj h2)
      exact ⟨t, by rw [← h5]; exact q⟩
    · cases h2
theorem tabK_of {fa : List He.Fa} {fn : List He.DefD} {ts : List He.Tab} {w : World} {K : PySem.W.Frag} (c : He.SaysT fa fn ts w K) (i : Nat) {t : He.Tab} (h : ts[i]? = some t) (hl : t.2.length ≤ 1000) : TabK K w (t.1 K) t.2 := by
  have e : ts.map (fun t => He.dicW K (t.1 K)) = ts.map fun t => some (He.keysIn w.params t.2) := congrArg (fun z : He.AlT => z.2) c
  have e2 : (ts.map fun t => He.dicW K (t.1 K))[i]? = (ts.map fun t => some (He.keysIn w.params t.2))[i]? := by rw [e]
  rw [List.getElem?_map, List.getElem?_map, h] at e2
  have e3 : He.dicW K (t.1 K) = some (He.keysIn w.params t.2) := Option.some.inj e2
  obtain ⟨es, n, D⟩ := He.dicW_ok e3
  have e4 := e3
  unfold He.dicW at e4
  rw [D.at_] at e4
  have e5 : (match decide ("dict" = "dict") && ((#[] : Array (Option Value)).isEmpty && !(t.1 K == sysModules)) with
    | true => some (es.toList.map He.keyOf)
    | false => none) = some (He.keysIn w.params t.2) := e4
  rw [D.low] at e5
  have e6 : es.toList.map He.keyOf = He.keysIn w.params t.2 := Option.some.inj e5
  refine ⟨es, n, D, e6, ?_⟩
  have := congrArg List.length e6
  unfold He.keysIn at this
  rw [List.length_map, List.length_map, Array.length_toList] at this
  omega
/-- tuple(d) -/
def rTupD (K : PySem.W.Frag) (w : World) : List V → Hp → VK → Prop := fun xs H Q => ∃ a ks, xs = [.ref a] ∧ TabK K w a ks ∧ ∀ p, H p = none → Q (.ref p) (upd H p (.tup (ks.map V.str)))
theorem call_tupD {X : Cx} (hc : X.calm = true) : CallR X (.type "tuple") (rTupD X.K X.w) := by
  intro pins s σ H xs us Q I r h
  obtain ⟨a, ks, rfl, ⟨es, n, D, hk, hz⟩, q⟩ := h
  obtain ⟨u, rfl, rx⟩ := r.one
  cases rx
  have ho : s.heap.get? a = some ⟨.type "dict", none, .dict es n, #[]⟩ := I.kIn _ _ D.at_
  have hkl : ks.length = es.size := by
    have := congrArg List.length hk
    unfold He.keysIn at this
    rw [List.length_map, List.length_map, Array.length_toList] at this
    exact this.symm
  refine call_tuple_src (kdl_raw (prog := X.prog) (w := X.w) (es := es) (ep := n) D.low ⟨rfl, rfl, rfl⟩ rfl) (I.ok.hd hc) ho (sz_of (by omega)) fun h' tk acc kp it => ?_
  have ea : acc.toList = es.toList.map fun e => e.key := by
    apply List.ext_getElem?
    intro j
    rw [List.getElem?_map]
    cases hj : acc.toList[j]? with
    | none =>
      have h1 := List.getElem?_eq_none_iff.mp hj
      rw [List.getElem?_eq_none (by rw [Array.length_toList] at h1 ⊢; rw [it.1] at h1; exact h1)]
      rfl
    | some v =>
      obtain ⟨en, hen, hv⟩ := it.2 j v (by rw [← Array.getElem?_toList]; exact hj)
      rw [Array.getElem?_toList, hen, hv]
      rfl
  have rv : Vals (ks.map V.str) acc.toList := by rw [ea]; exact keys_vals hk
  have I1 : Inv X pins σ H { s with heap := h', toks := tk } := I.kept (t' := tk) kp
  have I2 : Inv X pins σ (upd H h'.objs.size (.tup (ks.map V.str))) { s with heap := h'.push { cls := .type "tuple", data := .seq acc }, toks := tk } :=
    I1.laid (t' := tk) (fun b o e => Heap.get?_push_of_some _ e) (Nat.le_refl _) (show ObjOk X.prog X.w _ _ _ (.tup (ks.map V.str)) from ⟨sz_of (by rw [List.length_map]; omega), acc.toList, rv, by rw [Array.toArray_toList]; exact IsTup.new _ _⟩)
  exact ⟨.ref h'.objs.size, _, I2, rfl, q _ (I1.hok.fresh (Nat.le_refl _))⟩
/-! ### items that are tuples -/
def tupA (K : PySem.W.Frag) (a : Addr) (vs : List He.Dv) : Bool :=
  match K.lookup a with
  | some ⟨.type c, _, .seq its _, _⟩ => (decide (c = "tuple") && decide (its.size ≤ sizeLine)) && He.relAll (vs.map (He.Dv.v K)) its.toList
  | _ => false
theorem tupA_ok {K : PySem.W.Frag} {a : Addr} {vs : List He.Dv} (h : tupA K a vs = true) (H : Hp) : SqT K H a (vs.map (He.Dv.v K)) := by
  unfold tupA at h
  split at h
  · rename_i c od its n sl q
    obtain ⟨h1, h2⟩ := Bool.and_eq_true_iff.mp h
    obtain ⟨h3, h4⟩ := Bool.and_eq_true_iff.mp h1
    exact .inr ⟨_, its, n, q, congrArg Value.type (of_decide_eq_true h3), rfl, of_decide_eq_true h4, He.relAll_ok h2⟩
  · cases h
def itB (K : PySem.W.Frag) (d : Addr) (z : Str) (vs : List He.Dv) : Bool :=
  match PySem.W.nsIn K d z with
  | some (some (.ref a)) => tupA K a vs
  | _ => false
/-- d[z] is a tuple of these -/
def ItK (K : PySem.W.Frag) (d : Addr) (z : Str) (vs : List V) : Prop := ∃ a, PySem.W.nsIn K d z = some (some (.ref a)) ∧ ∀ H, SqT K H a vs
theorem itB_ok {K : PySem.W.Frag} {d : Addr} {z : Str} {vs : List He.Dv} (h : itB K d z vs = true) : ItK K d z (vs.map (He.Dv.v K)) := by
  unfold itB at h
  split at h
  · rename_i a q
    exact ⟨a, q, fun H => tupA_ok h H⟩
  · cases h
/-- d[z], d of the module -/
def rItD (K : PySem.W.Frag) (d : Addr) : R2 := fun x y H Q => ∃ z u v0, x = .ref d ∧ y = .str z ∧ PySem.W.nsIn K d z = some (some u) ∧ RelV v0 u ∧ Q v0 H
theorem op_itD {X : Cx} {d : Addr} {ks : List Str} (D : TabK X.K X.w d ks) : OpR X getItem (rItD X.K d) := by
  obtain ⟨es, n, D, _, _⟩ := D.d
  exact op_item_kd D
theorem ix_tab {X : Cx} {d : Addr} {ks : List Str} (D : TabK X.K X.w d ks) : IxR X (rItD X.K d) := by
  obtain ⟨es, n, D, _, _⟩ := D.d
  intro value slice pins s σ H x y v u Q I rx ry h hs
  have hx : x = .ref d := by
    obtain ⟨z, u0, v0, e, _⟩ := h
    exact e
  subst hx
  have hT := kd_type D I
  have g := op_item_kd D pins s σ H (.ref d) y v u Q I rx ry h
  cases rx
  exact tail_any hT PySem.F.slot_dict_getitem.lookup g hs
end Onc

namespace Onc
open PySem PySem.Spec PyProof.Rows L2 Evl
/-! ### primes, as far as needed -/
def Prm (p : Nat) : Prop := 2 ≤ p ∧ ∀ d, d ∣ p → d = 1 ∨ d = p
theorem prm_of : ∀ (n g : Nat), g ≤ n → 2 ≤ g → ∃ p, Prm p ∧ p ∣ g
  | 0, g, h, l => by omega
  | n + 1, g, h, l => by
    by_cases c : ∀ d, d ∣ g → d = 1 ∨ d = g
    · exact ⟨g, ⟨l, c⟩, Nat.dvd_refl g⟩
    · obtain ⟨d, hd, h1, h2⟩ : ∃ d, d ∣ g ∧ d ≠ 1 ∧ d ≠ g := by
        refine Classical.byContradiction fun z => c fun d hd => ?_
        refine Classical.byContradiction fun y => z ⟨d, hd, fun e => y (.inl e), fun e => y (.inr e)⟩
      have le := Nat.le_of_dvd (by omega) hd
      have d0 : d ≠ 0 := fun e => by subst e; have := Nat.eq_zero_of_zero_dvd hd; omega
      obtain ⟨p, hp, hpd⟩ := prm_of n d (by omega) (by omega)
      exact ⟨p, hp, Nat.dvd_trans hpd hd⟩
theorem Prm.mulN {p a b : Nat} (h : Prm p) (hd : p ∣ a * b) : p ∣ a ∨ p ∣ b := by
  rcases h.2 (Nat.gcd p a) (Nat.gcd_dvd_left p a) with e | e
  · exact .inr (Nat.Coprime.dvd_of_dvd_mul_left e hd)
  · exact .inl (e ▸ Nat.gcd_dvd_right p a)
theorem Prm.mul {p : Nat} {a b : Int} (h : Prm p) (hd : (p : Int) ∣ a * b) : (p : Int) ∣ a ∨ (p : Int) ∣ b := by
  have h1 := Int.ofNat_dvd_left.mp hd
  rw [Int.natAbs_mul] at h1
  exact (h.mulN h1).imp Int.ofNat_dvd_left.mpr Int.ofNat_dvd_left.mpr
theorem Prm.pow {p : Nat} {a : Int} (h : Prm p) : ∀ {k : Nat}, (p : Int) ∣ a ^ k → (p : Int) ∣ a
  | 0, hd => by
    rw [Int.pow_zero] at hd
    have := Int.ofNat_dvd_left.mp hd
    have := Nat.le_of_dvd (by decide) this
    have h2 := h.1
    have : (1 : Int).natAbs = 1 := rfl
    omega
  | k + 1, hd => by
    rw [Int.pow_succ] at hd
    rcases h.mul hd with z | z
    · exact h.pow z
    · exact z
theorem Prm.small {p : Nat} {a : Int} (h : Prm p) (hp : 120 < p) (h0 : 0 < a) (h1 : a ≤ 120) : ¬ (p : Int) ∣ a := fun hd => by
  have := Int.le_of_dvd h0 hd
  omega
def oddP : List Nat := [3, 5, 7, 11, 13, 17, 19, 23, 29, 31, 37, 41, 43, 47, 53, 59, 61, 67, 71, 73, 79, 83, 89, 97, 101, 103, 107, 109, 113]
theorem small_list : ∀ p : Nat, p < 121 → p < 2 ∨ p = 2 ∨ p ∈ oddP ∨ ∃ d ∈ [2, 3, 5, 7], d ∣ p ∧ d ≠ p := by decide +kernel
theorem Prm.listed {p : Nat} (h : Prm p) (hp : p ≤ 120) : p = 2 ∨ p ∈ oddP := by
  rcases small_list p (by omega) with z | z | z | ⟨d, hd, h1, h2⟩
  · have := h.1; omega
  · exact .inl z
  · exact .inr z
  · rcases h.2 d h1 with e | e
    · subst e; exact absurd hd (by decide)
    · exact absurd e h2
/-- no common divisor but 1 -/
theorem gcd_one {a b : Int} (hb : 0 < b) (h : ∀ p, Prm p → (p : Int) ∣ a → (p : Int) ∣ b → False) : Int.gcd a b = 1 := by
  have g0 : 0 < Int.gcd a b := Int.gcd_pos_of_ne_zero_right a (by omega)
  refine Classical.byContradiction fun z => ?_
  obtain ⟨p, hp, hd⟩ := prm_of (Int.gcd a b) (Int.gcd a b) (Nat.le_refl _) (by omega)
  have hd' : (p : Int) ∣ (Int.gcd a b : Int) := Int.natCast_dvd_natCast.mpr hd
  exact h p hp (Int.dvd_trans hd' (Int.gcd_dvd_left a b)) (Int.dvd_trans hd' (Int.gcd_dvd_right a b))
theorem dvd_cop {a b d : Int} (h1 : Int.gcd a b = 1) (h : b ∣ a * d) : b ∣ d := by
  have h2 := Int.natAbs_dvd_natAbs.mpr h
  rw [Int.natAbs_mul] at h2
  refine Int.natAbs_dvd_natAbs.mp (Nat.Coprime.dvd_of_dvd_mul_left ?_ h2)
  rw [Int.gcd_eq_natAbs_gcd_natAbs] at h1
  exact (Nat.gcd_comm _ _).trans h1
theorem low_uniq {a b c d : Int} (hb : 0 < b) (hd : 0 < d) (h1 : Int.gcd a b = 1) (h2 : Int.gcd c d = 1) (h : a * d = c * b) : a = c ∧ b = d := by
  have x1 : b ∣ d := dvd_cop h1 ⟨c, by rw [h, Int.mul_comm]⟩
  have x2 : d ∣ b := dvd_cop h2 ⟨a, by rw [← h, Int.mul_comm]⟩
  have e : b = d := Int.le_antisymm (Int.le_of_dvd hd x1) (Int.le_of_dvd hb x2)
  subst e
  exact ⟨Int.eq_of_mul_eq_mul_right (by omega) h, rfl⟩
/-- the fraction in lowest terms -/
def frc (t b : Int) : Int × Int := (t / (Int.gcd t b : Int), b / (Int.gcd t b : Int))
theorem frc_ok {t b : Int} (hb : 0 < b) : 0 < (frc t b).2 ∧ Int.gcd (frc t b).1 (frc t b).2 = 1 ∧ (frc t b).1 * b = t * (frc t b).2 := by
  have g0 : (0 : Int) < (Int.gcd t b : Int) := by
    have := Int.gcd_pos_of_ne_zero_right t (b := b) (by omega)
    omega
  obtain ⟨x, hx⟩ := Int.gcd_dvd_left t b
  obtain ⟨y, hy⟩ := Int.gcd_dvd_right t b
  have e1 : t / (Int.gcd t b : Int) = x := Int.ediv_eq_of_eq_mul_right (by omega) hx
  have e2 : b / (Int.gcd t b : Int) = y := Int.ediv_eq_of_eq_mul_right (by omega) hy
  unfold frc
  rw [e1, e2]
  have hy0 : 0 < y := by
    rcases Int.lt_trichotomy y 0 with h | h | h
    · have := Int.mul_neg_of_pos_of_neg g0 h
      omega
    · rw [h, Int.mul_zero] at hy
      omega
    · exact h
  refine ⟨hy0, ?_, ?_⟩
  · refine gcd_one hy0 fun p hp h1 h2 => ?_
    have h3 : ((p : Int) * (Int.gcd t b : Int)) ∣ t := by
      obtain ⟨u, hu⟩ := h1
      exact ⟨u, by have hu' : x = (p : Int) * u := hu; rw [hu'] at hx; rw [Int.mul_comm (p : Int), Int.mul_assoc]; exact hx⟩
    have h4 : ((p : Int) * (Int.gcd t b : Int)) ∣ b := by
      obtain ⟨u, hu⟩ := h2
      exact ⟨u, by have hu' : y = (p : Int) * u := hu; rw [hu'] at hy; rw [Int.mul_comm (p : Int), Int.mul_assoc]; exact hy⟩
    have h5 := Int.dvd_coe_gcd h3 h4
    have h6 := Int.le_of_dvd g0 h5
    have h7 := hp.1
    have h8 : (2 : Int) * (Int.gcd t b : Int) ≤ (p : Int) * (Int.gcd t b : Int) := Int.mul_le_mul_of_nonneg_right (by omega) (by omega)
    omega
  · generalize (Int.gcd t b : Int) = g at *
    subst hx hy
    grind
theorem frc_eq {t b a c : Int} (hb : 0 < b) (hc : 0 < c) (h1 : Int.gcd a c = 1) (h : a * b = t * c) : (a, c) = frc t b := by
  obtain ⟨f1, f2, f3⟩ := frc_ok (t := t) hb
  have e : a * (frc t b).2 = (frc t b).1 * c := by
    have : (a * (frc t b).2) * b = ((frc t b).1 * c) * b := by
      generalize (frc t b).1 = x at *
      generalize (frc t b).2 = y at *
      grind
    exact Int.eq_of_mul_eq_mul_right (by omega) this
  obtain ⟨e1, e2⟩ := low_uniq hc f1 h1 f2 e
  exact Prod.ext e1 e2
/-! ### the sum of the first terms -/
inductive Wd5 where
  | exp | sin | cos | arc | log
deriving DecidableEq
namespace Wd5
def k0 : Wd5 → Nat
  | exp => 0 | sin => 1 | cos => 0 | arc => 1 | log => 1
def st : Wd5 → Nat
  | exp => 1 | sin => 2 | cos => 2 | arc => 2 | log => 2
def tn : Wd5 → Int
  | exp => 1 | sin => -1 | cos => -1 | arc => -1 | log => 1
def odd : Wd5 → Bool
  | arc => true | log => true | _ => false
def two : Wd5 → Int
  | log => 2 | _ => 1
end Wd5
def fct : Nat → Int
  | 0 => 1
  | n + 1 => fct n * ((n : Int) + 1)
theorem fct_pos : ∀ n, 0 < fct n
  | 0 => by decide
  | n + 1 => Int.mul_pos (fct_pos n) (by omega)
def kk (w : Wd5) (j : Nat) : Nat := w.k0 + w.st * j
theorem kk_succ (w : Wd5) (j : Nat) : kk w (j + 1) = kk w j + w.st := by unfold kk; rw [Nat.mul_succ]; omega
def cj (w : Wd5) (k : Nat) : Int := if w.odd = true then (k : Int) else fct k
def trm (w : Wd5) (a b : Int) (j : Nat) : Int × Int := (w.tn ^ j * (w.two * a ^ kk w j), b ^ kk w j * cj w (kk w j))
def fplus (o t : Int × Int) : Int × Int := frc (o.1 * t.2 + t.1 * o.2) (o.2 * t.2)
def due (w : Wd5) (a b : Int) : Nat → Int × Int
  | 0 => (0, 1)
  | j + 1 => fplus (due w a b j) (frc (trm w a b j).1 (trm w a b j).2)
theorem odd_st {w : Wd5} (h : w.odd = true) : w.st = 2 ∧ w.k0 = 1 := by cases w <;> first | exact ⟨rfl, rfl⟩ | exact absurd h (by decide)
theorem kk_odd {w : Wd5} (h : w.odd = true) (j : Nat) : kk w j = 1 + 2 * j := by
  unfold kk
  rw [(odd_st h).1, (odd_st h).2]
theorem cj_pos (w : Wd5) (j : Nat) : 0 < cj w (kk w j) := by
  unfold cj
  by_cases h : w.odd = true
  · rw [if_pos h, kk_odd h]
    omega
  · rw [if_neg h]
    exact fct_pos _
theorem trm_pos (w : Wd5) {a b : Int} (hb : 0 < b) (j : Nat) : 0 < (trm w a b j).2 := Int.mul_pos (Int.pow_pos hb) (cj_pos w j)
theorem due_pos (w : Wd5) {a b : Int} (hb : 0 < b) : ∀ j, 0 < (due w a b j).2
  | 0 => by show (0 : Int) < 1; decide
  | j + 1 => (frc_ok (Int.mul_pos (due_pos w hb j) (frc_ok (trm_pos w hb j)).1)).1
theorem due_cop (w : Wd5) {a b : Int} (hb : 0 < b) : ∀ j, Int.gcd (due w a b j).1 (due w a b j).2 = 1
  | 0 => by show Int.gcd 0 1 = 1; decide
  | j + 1 => (frc_ok (Int.mul_pos (due_pos w hb j) (frc_ok (trm_pos w hb j)).1)).2.1
def Pj (w : Wd5) (X : Int) (j : Nat) : Int := w.tn ^ j * (w.two * X ^ kk w j)
def Wj (w : Wd5) : Nat → Int
  | 0 => 1
  | j + 1 => if w.odd = true then Wj w j * (kk w j : Int) else 1
def Bj (w : Wd5) (Y : Int) (j : Nat) : Int := Wj w j * (cj w (kk w j) * Y ^ kk w j)
def gj (w : Wd5) (Y : Int) (j : Nat) : Int := if w.odd = true then Y * Y * ((kk w j : Int) + 2) else if w.st = 1 then (kk w j : Int) + 1 else ((kk w j : Int) + 1) * ((kk w j : Int) + 2)
def Tj (w : Wd5) (X Y : Int) (q : Nat) : Nat → Int
  | 0 => Pj w X 0
  | j + 1 => Tj w X Y q j * gj w Y j * 2 ^ (w.st * q) + Pj w X (j + 1) * Wj w (j + 1)
theorem Wj_succ {w : Wd5} (h : w.odd = true) (j : Nat) : Wj w (j + 1) = Wj w j * (kk w j : Int) := by show (if w.odd = true then Wj w j * (kk w j : Int) else 1) = _; rw [if_pos h]
theorem Wj_pos (w : Wd5) : ∀ j, 0 < Wj w j
  | 0 => by show (0 : Int) < 1; decide
  | j + 1 => by
    show 0 < (if w.odd = true then Wj w j * (kk w j : Int) else 1)
    by_cases h : w.odd = true
    · rw [if_pos h]
      refine Int.mul_pos (Wj_pos w j) ?_
      rw [kk_odd h]
      omega
    · rw [if_neg h]
      decide
theorem Wj_one {w : Wd5} (h : w.odd = false) : ∀ j, Wj w j = 1
  | 0 => rfl
  | j + 1 => by show (if w.odd = true then Wj w j * (kk w j : Int) else 1) = 1; rw [if_neg (by rw [h]; decide)]
theorem Bj_succ (w : Wd5) {Y : Int} (hY : w.odd = false → Y = 1) (j : Nat) : Bj w Y (j + 1) = Bj w Y j * gj w Y j := by
  cases ho : w.odd with
  | false =>
    have y1 := hY ho
    subst y1
    unfold Bj gj cj
    rw [Wj_one ho, Wj_one ho, ho, if_neg (by decide), if_neg (by decide), if_neg (by decide), Int.one_pow, Int.one_pow, kk_succ]
    generalize kk w j = k
    by_cases s1 : w.st = 1
    · rw [if_pos s1, s1]
      show 1 * (fct k * ((k : Int) + 1) * 1) = _
      generalize fct k = f
      grind
    · have s2 : w.st = 2 := by cases w <;> first | rfl | exact absurd rfl s1
      rw [if_neg s1, s2]
      show 1 * (fct k * ((k : Int) + 1) * (((k + 1 : Nat) : Int) + 1) * 1) = _
      have c : ((k + 1 : Nat) : Int) = (k : Int) + 1 := by omega
      rw [c]
      generalize fct k = f
      generalize (k : Int) = z
      grind
  | true =>
    unfold Bj gj cj
    rw [Wj_succ ho, if_pos ho, if_pos ho, if_pos ho, kk_succ, (odd_st ho).1, Int.pow_add]
    have e : Y ^ 2 = Y * Y := by rw [show (2 : Nat) = 1 + 1 from rfl, Int.pow_succ, Int.pow_one]
    rw [e]
    generalize Y ^ kk w j = z
    have c : ((kk w j + 2 : Nat) : Int) = (kk w j : Int) + 2 := by omega
    rw [c]
    generalize (kk w j : Int) = k
    generalize Wj w j = u
    generalize Y * Y = y2
    grind
/-- the last term -/
theorem last_term {w : Wd5} {X Y a b : Int} {q : Nat} (h : a * (Y * 2 ^ q) = X * b) (j : Nat) :
    (Pj w X j * Wj w j) * (trm w a b j).2 = (trm w a b j).1 * (Bj w Y j * 2 ^ (q * kk w j)) := by
  unfold Pj Bj trm
  have e : (X * b) ^ kk w j = (a * (Y * 2 ^ q)) ^ kk w j := by rw [h]
  rw [Int.mul_pow, Int.mul_pow, Int.mul_pow, ← Int.pow_mul] at e
  show w.tn ^ j * (w.two * X ^ kk w j) * Wj w j * (b ^ kk w j * cj w (kk w j)) = w.tn ^ j * (w.two * a ^ kk w j) * (Wj w j * (cj w (kk w j) * Y ^ kk w j) * 2 ^ (q * kk w j))
  generalize X ^ kk w j = x at *
  generalize b ^ kk w j = y at *
  generalize a ^ kk w j = z at *
  generalize Y ^ kk w j = u at *
  generalize (2 : Int) ^ (q * kk w j) = v at *
  generalize w.tn ^ j = c1
  generalize Wj w j = c2
  generalize cj w (kk w j) = c3
  grind
theorem Bj_pos (w : Wd5) {Y : Int} (h : 0 < Y) (j : Nat) : 0 < Bj w Y j := Int.mul_pos (Wj_pos w j) (Int.mul_pos (cj_pos w j) (Int.pow_pos h))
theorem value {w : Wd5} {X Y a b : Int} {q : Nat} (hY : w.odd = false → Y = 1) (hY0 : 0 < Y) (hb : 0 < b) (h : a * (Y * 2 ^ q) = X * b) : ∀ j : Nat,
    Tj w X Y q j * (due w a b (j + 1)).2 = (due w a b (j + 1)).1 * (Bj w Y j * 2 ^ (q * kk w j))
  | 0 => by
    have f := frc_ok (t := (trm w a b 0).1) (trm_pos w (a := a) hb 0)
    have l := last_term (w := w) h 0
    have d := frc_ok (t := (due w a b 0).1 * (frc (trm w a b 0).1 (trm w a b 0).2).2 + (frc (trm w a b 0).1 (trm w a b 0).2).1 * (due w a b 0).2) (Int.mul_pos (due_pos w (a := a) hb 0) f.1)
    show Pj w X 0 * (fplus (due w a b 0) (frc (trm w a b 0).1 (trm w a b 0).2)).2 = (fplus (due w a b 0) (frc (trm w a b 0).1 (trm w a b 0).2)).1 * (Bj w Y 0 * 2 ^ (q * kk w 0))
    have w0 : Wj w 0 = 1 := rfl
    rw [w0, Int.mul_one] at l
    have hp := trm_pos w (a := a) hb 0
    unfold fplus
    have e1 : (due w a b 0).1 = 0 := rfl
    have e2 : (due w a b 0).2 = 1 := rfl
    rw [e1, e2] at d ⊢
    generalize (trm w a b 0).1 = t1 at *
    generalize (trm w a b 0).2 = t2 at *
    generalize (frc t1 t2).1 = u1 at *
    generalize (frc t1 t2).2 = u2 at *
    generalize (frc (0 * u2 + u1 * 1) (1 * u2)).1 = v1 at *
    generalize (frc (0 * u2 + u1 * 1) (1 * u2)).2 = v2 at *
    generalize Bj w Y 0 * 2 ^ (q * kk w 0) = B at *
    obtain ⟨f1, f2, f3⟩ := f
    obtain ⟨d1, d2, d3⟩ := d
    refine Int.eq_of_mul_eq_mul_right (a := t2 * u2) (Int.ne_of_gt (Int.mul_pos hp f1)) ?_
    generalize Pj w X 0 = P at *
    grind
  | j + 1 => by
    have ih := value hY hY0 hb h j
    have f := frc_ok (t := (trm w a b (j + 1)).1) (trm_pos w (a := a) hb (j + 1))
    have l := last_term (w := w) h (j + 1)
    have dp := due_pos w (a := a) hb (j + 1)
    have d := frc_ok (t := (due w a b (j + 1)).1 * (frc (trm w a b (j + 1)).1 (trm w a b (j + 1)).2).2 + (frc (trm w a b (j + 1)).1 (trm w a b (j + 1)).2).1 * (due w a b (j + 1)).2) (Int.mul_pos dp f.1)
    have hp := trm_pos w (a := a) hb (j + 1)
    show (Tj w X Y q j * gj w Y j * 2 ^ (w.st * q) + Pj w X (j + 1) * Wj w (j + 1)) * (fplus (due w a b (j + 1)) (frc (trm w a b (j + 1)).1 (trm w a b (j + 1)).2)).2 = (fplus (due w a b (j + 1)) (frc (trm w a b (j + 1)).1 (trm w a b (j + 1)).2)).1 * (Bj w Y (j + 1) * 2 ^ (q * kk w (j + 1)))
    have e2 : (2 : Int) ^ (q * kk w (j + 1)) = 2 ^ (q * kk w j) * 2 ^ (w.st * q) := by rw [kk_succ, Nat.mul_add, Int.pow_add, Nat.mul_comm q w.st]
    rw [Bj_succ w hY j, e2] at l ⊢
    unfold fplus
    generalize (trm w a b (j + 1)).1 = t1 at *
    generalize (trm w a b (j + 1)).2 = t2 at *
    generalize (due w a b (j + 1)).1 = o1 at *
    generalize (due w a b (j + 1)).2 = o2 at *
    generalize (frc t1 t2).1 = u1 at *
    generalize (frc t1 t2).2 = u2 at *
    generalize (frc (o1 * u2 + u1 * o2) (o2 * u2)).1 = v1 at *
    generalize (frc (o1 * u2 + u1 * o2) (o2 * u2)).2 = v2 at *
    generalize (2 : Int) ^ (q * kk w j) = z1 at *
    generalize (2 : Int) ^ (w.st * q) = z2 at *
    generalize Bj w Y j = B at *
    generalize gj w Y j = g at *
    generalize Tj w X Y q j = T at *
    generalize Pj w X (j + 1) * Wj w (j + 1) = PW at *
    obtain ⟨f1, f2, f3⟩ := f
    obtain ⟨d1, d2, d3⟩ := d
    refine Int.eq_of_mul_eq_mul_right (a := t2 * (o2 * u2)) (Int.ne_of_gt (Int.mul_pos hp (Int.mul_pos dp f1))) ?_
    have k1 : (T * g * z2 + PW) * (o2 * t2) = (o1 * t2 + t1 * o2) * (B * g * (z1 * z2)) := by grind
    have k2 : (o1 * u2 + u1 * o2) * t2 = (o1 * t2 + t1 * o2) * u2 := by grind
    have k3 : (T * g * z2 + PW) * (o2 * u2) * t2 = (o1 * u2 + u1 * o2) * (B * g * (z1 * z2)) * t2 := by
      generalize T * g * z2 + PW = S at *
      generalize B * g * (z1 * z2) = C at *
      grind
    have k4 : (T * g * z2 + PW) * (o2 * u2) = (o1 * u2 + u1 * o2) * (B * g * (z1 * z2)) := Int.eq_of_mul_eq_mul_right (by omega) k3
    generalize T * g * z2 + PW = S at *
    generalize B * g * (z1 * z2) = C at *
    generalize o1 * u2 + u1 * o2 = n1 at *
    generalize o2 * u2 = n2 at *
    grind

/-! ### what both can have in common -/
theorem fct_small {p : Nat} (hp : Prm p) (h : 120 < p) : ∀ k : Nat, k ≤ 120 → ¬ (p : Int) ∣ fct k
  | 0, _, hd => by
    have := Int.le_of_dvd (by decide) hd
    have : (p : Int) ≤ 1 := this
    omega
  | k + 1, hk, hd => by
    rcases hp.mul hd with z | z
    · exact fct_small hp h k (by omega) z
    · exact hp.small h (by omega) (by omega) z
theorem Wj_small {p : Nat} (hp : Prm p) (h : 120 < p) (w : Wd5) : ∀ j : Nat, j ≤ 59 → ¬ (p : Int) ∣ Wj w j
  | 0, _, hd => by
    have : (p : Int) ≤ 1 := Int.le_of_dvd (by decide) hd
    omega
  | j + 1, hj, hd => by
    cases ho : w.odd with
    | false =>
      rw [Wj_one ho] at hd
      have : (p : Int) ≤ 1 := Int.le_of_dvd (by decide) hd
      omega
    | true =>
      rw [Wj_succ ho, kk_odd ho] at hd
      rcases hp.mul hd with z | z
      · exact Wj_small hp h w j (by omega) z
      · exact hp.small h (by omega) (by omega) z
theorem kk_le (w : Wd5) {j : Nat} (h : j ≤ 59) : kk w j ≤ 119 := by
  unfold kk
  cases w <;> simp only [Wd5.k0, Wd5.st] <;> omega
theorem Bj_dvd {p : Nat} (hp : Prm p) (h : 120 < p) {w : Wd5} {Y : Int} {j : Nat} (hj : j ≤ 59) (hd : (p : Int) ∣ Bj w Y j) : (p : Int) ∣ Y := by
  have k119 := kk_le w hj
  rcases hp.mul hd with z | z
  · exact absurd z (Wj_small hp h w j hj)
  · rcases hp.mul z with z | z
    · unfold cj at z
      by_cases ho : w.odd = true
      · rw [if_pos ho, kk_odd ho] at z
        rw [kk_odd ho] at k119
        exact absurd z (hp.small h (by omega) (by omega))
      · rw [if_neg ho] at z
        exact absurd z (fct_small hp h _ (by omega))
    · exact hp.pow z
theorem tn_dvd {p : Nat} (hp : Prm p) (w : Wd5) {j : Nat} : ¬ (p : Int) ∣ w.tn ^ j := fun hd => by
  have h1 := hp.pow hd
  have h2 := hp.1
  have h3 := Int.ofNat_dvd_left.mp h1
  have h4 : w.tn.natAbs = 1 := by cases w <;> rfl
  rw [h4] at h3
  have := Nat.le_of_dvd (by decide) h3
  omega
theorem Pj_dvd {p : Nat} (hp : Prm p) (h : 120 < p) {w : Wd5} {X : Int} {j : Nat} (hd : (p : Int) ∣ Pj w X j) : (p : Int) ∣ X := by
  rcases hp.mul hd with z | z
  · exact absurd z (tn_dvd hp w)
  · rcases hp.mul z with z | z
    · have h5 : (p : Int) ≤ 2 := by
        cases w <;> simp only [Wd5.two] at z <;> first
          | exact Int.le_of_dvd (by decide) z
          | exact Int.le_trans (Int.le_of_dvd (by decide) z) (by decide)
      omega
    · exact hp.pow z
/-- no prime beyond 120 that divides Y divides the sum's top -/
theorem Tj_dvd {p : Nat} (hp : Prm p) (h : 120 < p) {w : Wd5} {X Y : Int} {q : Nat} (ho : w.odd = true) (hY : (p : Int) ∣ Y) (hX : ¬ (p : Int) ∣ X) : ∀ j : Nat, j ≤ 59 → ¬ (p : Int) ∣ Tj w X Y q j
  | 0, _, hd => hX (Pj_dvd hp h hd)
  | j + 1, hj, hd => by
    have g : (p : Int) ∣ Tj w X Y q j * gj w Y j * 2 ^ (w.st * q) := by
      unfold gj
      rw [if_pos ho]
      obtain ⟨c, hc⟩ := hY
      exact ⟨Tj w X Y q j * (c * Y * ((kk w j : Int) + 2)) * 2 ^ (w.st * q), by
        generalize Tj w X Y q j = t
        generalize (2 : Int) ^ (w.st * q) = v
        generalize ((kk w j : Int) + 2) = u
        grind⟩
    have g2 : (p : Int) ∣ Pj w X (j + 1) * Wj w (j + 1) := (Int.dvd_add_right g).mp hd
    rcases hp.mul g2 with z | z
    · exact hX (Pj_dvd hp h z)
    · exact Wj_small hp h w (j + 1) hj z
/-! ### sizes -/
theorem bb_lt {x : Int} {a : Nat} (h : x.natAbs ≤ 2 ^ a) : x.natAbs < 2 ^ (a + 1) := Nat.lt_of_le_of_lt h (Nat.pow_lt_pow_right (by decide) (Nat.lt_succ_self a))
theorem bb_up {x : Int} {a b : Nat} (h : x.natAbs ≤ 2 ^ a) (l : a ≤ b) : x.natAbs ≤ 2 ^ b := Nat.le_trans h (Nat.pow_le_pow_right (by decide) l)
theorem bb_mul {x y : Int} {a b : Nat} (h1 : x.natAbs ≤ 2 ^ a) (h2 : y.natAbs ≤ 2 ^ b) : (x * y).natAbs ≤ 2 ^ (a + b) := by
  rw [Int.natAbs_mul, Nat.pow_add]
  exact Nat.mul_le_mul h1 h2
theorem bb_add {x y : Int} {a : Nat} (h1 : x.natAbs ≤ 2 ^ a) (h2 : y.natAbs ≤ 2 ^ a) : (x + y).natAbs ≤ 2 ^ (a + 1) := by
  rw [Nat.pow_succ]
  omega
theorem bb_pow {x : Int} {a : Nat} (h : x.natAbs ≤ 2 ^ a) : ∀ k : Nat, (x ^ k).natAbs ≤ 2 ^ (a * k)
  | 0 => by rw [Int.pow_zero]; exact Nat.le_refl 1
  | k + 1 => by
    rw [Int.pow_succ, Nat.mul_succ]
    exact bb_mul (bb_pow h k) h
theorem bb_two (k : Nat) : ((2 : Int) ^ k).natAbs ≤ 2 ^ k := by
  have := bb_pow (x := 2) (a := 1) (by decide) k
  rw [Nat.one_mul] at this
  exact this
theorem bb_nat {k a : Nat} (h : k ≤ 2 ^ a) : ((k : Int)).natAbs ≤ 2 ^ a := by
  rw [Int.natAbs_natCast]
  exact h
theorem fct_bd : ∀ k : Nat, k ≤ 120 → (fct k).natAbs ≤ 2 ^ (7 * k)
  | 0, _ => Nat.le_refl 1
  | k + 1, h => by
    rw [Nat.mul_succ]
    exact bb_mul (fct_bd k (by omega)) (show ((k : Int) + 1).natAbs ≤ 128 by omega)
theorem cj_bd (w : Wd5) {k : Nat} (h : k ≤ 120) : (cj w k).natAbs ≤ 2 ^ 840 := by
  unfold cj
  by_cases ho : w.odd = true
  · rw [if_pos ho]
    exact bb_up (bb_nat (a := 7) (show k ≤ 128 by omega)) (by omega)
  · rw [if_neg ho]
    exact bb_up (fct_bd k h) (by omega)
theorem Wj_bd (w : Wd5) : ∀ j : Nat, j ≤ 59 → (Wj w j).natAbs ≤ 2 ^ (7 * j)
  | 0, _ => Nat.le_refl 1
  | j + 1, h => by
    show (if w.odd = true then Wj w j * (kk w j : Int) else 1).natAbs ≤ _
    have k1 := kk_le w (j := j) (by omega)
    by_cases ho : w.odd = true
    · rw [if_pos ho, Nat.mul_succ]
      exact bb_mul (Wj_bd w j (by omega)) (bb_nat (a := 7) (show kk w j ≤ 128 by omega))
    · rw [if_neg ho]
      exact Nat.pow_pos (by decide)
structure Bnd (w : Wd5) (X Y : Int) (q c j : Nat) : Prop where
  c45 : c ≤ 45
  x : X.natAbs ≤ 2 ^ c
  y : Y.natAbs ≤ 2 ^ c
  q : q ≤ c
  k : c * kk w j ≤ 1300
  j59 : j ≤ 59
theorem kk_mono (w : Wd5) {i j : Nat} (h : i ≤ j) : kk w i ≤ kk w j := by
  unfold kk
  have := Nat.mul_le_mul_left w.st h
  omega
theorem Bnd.down {w : Wd5} {X Y : Int} {q c i j : Nat} (b : Bnd w X Y q c j) (h : i ≤ j) : Bnd w X Y q c i := ⟨b.c45, b.x, b.y, b.q, Nat.le_trans (Nat.mul_le_mul_left c (kk_mono w h)) b.k, Nat.le_trans h b.j59⟩
theorem Bnd.pw {w : Wd5} {X Y : Int} {q c j : Nat} (b : Bnd w X Y q c j) {x : Int} (h : x.natAbs ≤ 2 ^ c) : (x ^ kk w j).natAbs ≤ 2 ^ 1300 := bb_up (bb_pow h _) b.k
theorem tn_bd (w : Wd5) (j : Nat) : (w.tn ^ j).natAbs ≤ 2 ^ 0 := by
  have h : w.tn.natAbs ≤ 2 ^ 0 := by cases w <;> decide
  have := bb_pow h j
  rw [Nat.zero_mul] at this
  exact this
theorem two_bd (w : Wd5) : w.two.natAbs ≤ 2 ^ 1 := by cases w <;> decide
theorem Bnd.P {w : Wd5} {X Y : Int} {q c j : Nat} (b : Bnd w X Y q c j) : (Pj w X j).natAbs ≤ 2 ^ 1301 := bb_up (bb_mul (tn_bd w j) (bb_mul (two_bd w) (b.pw b.x))) (by omega)
theorem Bnd.W {w : Wd5} {X Y : Int} {q c j : Nat} (b : Bnd w X Y q c j) : (Wj w j).natAbs ≤ 2 ^ 413 := bb_up (Wj_bd w j b.j59) (by have := b.j59; omega)
theorem Bnd.B {w : Wd5} {X Y : Int} {q c j : Nat} (b : Bnd w X Y q c j) : (Bj w Y j).natAbs ≤ 2 ^ 2553 := bb_mul b.W (bb_mul (cj_bd w (by have := kk_le w b.j59; omega)) (b.pw b.y))
theorem Bnd.S {w : Wd5} {X Y : Int} {q c j : Nat} (b : Bnd w X Y q c j) : q * kk w j ≤ 1300 := Nat.le_trans (Nat.mul_le_mul_right _ b.q) b.k
theorem Bnd.D {w : Wd5} {X Y : Int} {q c j : Nat} (b : Bnd w X Y q c j) : (Bj w Y j * 2 ^ (q * kk w j)).natAbs ≤ 2 ^ 3853 := bb_mul b.B (bb_up (bb_two _) b.S)
theorem Bnd.g {w : Wd5} {X Y : Int} {q c j : Nat} (b : Bnd w X Y q c j) : (gj w Y j).natAbs ≤ 2 ^ 104 := by
  have k1 := kk_le w b.j59
  have c45 := b.c45
  have e1 : ((kk w j : Int) + 1).natAbs ≤ 2 ^ 7 := by show _ ≤ 128; omega
  have e2 : ((kk w j : Int) + 2).natAbs ≤ 2 ^ 7 := by show _ ≤ 128; omega
  unfold gj
  by_cases ho : w.odd = true
  · rw [if_pos ho]
    exact bb_up (bb_mul (bb_mul b.y b.y) e2) (by omega)
  · rw [if_neg ho]
    by_cases hs : w.st = 1
    · rw [if_pos hs]
      exact bb_up e1 (by omega)
    · rw [if_neg hs]
      exact bb_up (bb_mul e1 e2) (by omega)
theorem st_le (w : Wd5) : w.st ≤ 2 := by cases w <;> decide
theorem Bnd.T {w : Wd5} {X Y : Int} {q c : Nat} : ∀ {j : Nat}, Bnd w X Y q c j → (Tj w X Y q j).natAbs ≤ 2 ^ (2000 + 200 * j)
  | 0, b => bb_up b.P (by omega)
  | j + 1, b => by
    have b0 := b.down (Nat.le_succ j)
    have t := Bnd.T b0
    have sq : w.st * q ≤ 90 := Nat.le_trans (Nat.mul_le_mul (st_le w) (Nat.le_trans b.q b.c45)) (by decide)
    have h1 : (Tj w X Y q j * gj w Y j * 2 ^ (w.st * q)).natAbs ≤ 2 ^ (2000 + 200 * j + 194) := bb_up (bb_mul (bb_mul t b0.g) (bb_up (bb_two _) sq)) (by omega)
    have h2 : (Pj w X (j + 1) * Wj w (j + 1)).natAbs ≤ 2 ^ (2000 + 200 * j + 194) := bb_up (bb_mul b.P b.W) (by omega)
    exact bb_up (bb_add h1 h2) (by omega)
theorem Bnd.t1 {w : Wd5} {X Y a b : Int} {q c j : Nat} (B : Bnd w X Y q c j) (ha : a.natAbs ≤ 2 ^ c) : (trm w a b j).1.natAbs ≤ 2 ^ 1301 := bb_up (bb_mul (tn_bd w j) (bb_mul (two_bd w) (B.pw ha))) (by omega)
theorem Bnd.t2 {w : Wd5} {X Y a b : Int} {q c j : Nat} (B : Bnd w X Y q c j) (hb : b.natAbs ≤ 2 ^ c) : (trm w a b j).2.natAbs ≤ 2 ^ 2140 := bb_mul (B.pw hb) (cj_bd w (by have := kk_le w B.j59; omega))
theorem frc_bd {t b : Int} (hb : 0 < b) : (frc t b).1.natAbs ≤ t.natAbs ∧ (frc t b).2.natAbs ≤ b.natAbs := by
  obtain ⟨x, hx⟩ := Int.gcd_dvd_left t b
  obtain ⟨y, hy⟩ := Int.gcd_dvd_right t b
  have g0 : 0 < Int.gcd t b := Int.gcd_pos_of_ne_zero_right t (by omega)
  have e1 : t / (Int.gcd t b : Int) = x := Int.ediv_eq_of_eq_mul_right (by omega) hx
  have e2 : b / (Int.gcd t b : Int) = y := Int.ediv_eq_of_eq_mul_right (by omega) hy
  unfold frc
  rw [e1, e2]
  have up : ∀ z u : Int, z = (Int.gcd t b : Int) * u → u.natAbs ≤ z.natAbs := fun z u h => by
    rw [h, Int.natAbs_mul]
    exact Nat.le_mul_of_pos_left _ (by rw [Int.natAbs_natCast]; exact g0)
  exact ⟨up t x hx, up b y hy⟩
/-- the due sum is no greater than what is summed by one bottom -/
theorem due_bd {w : Wd5} {X Y a b : Int} {q c j : Nat} (B : Bnd w X Y q c j) (hY : w.odd = false → Y = 1) (hY0 : 0 < Y) (hb : 0 < b) (h : a * (Y * 2 ^ q) = X * b) : (due w a b (j + 1)).1.natAbs ≤ 2 ^ (2000 + 200 * j) ∧ (due w a b (j + 1)).2.natAbs ≤ 2 ^ 3853 := by
  have v := value (w := w) hY hY0 hb h j
  have cp := due_cop w (a := a) hb (j + 1)
  have dp := due_pos w (a := a) hb (j + 1)
  have D0 : 0 < Bj w Y j * 2 ^ (q * kk w j) := Int.mul_pos (Bj_pos w hY0 j) (Int.pow_pos (by decide))
  have hD := B.D
  have hT := B.T
  generalize (due w a b (j + 1)).1 = d1 at *
  generalize (due w a b (j + 1)).2 = d2 at *
  generalize Bj w Y j * 2 ^ (q * kk w j) = D at *
  generalize Tj w X Y q j = T at *
  have d : d2 ∣ D := dvd_cop cp ⟨T, by rw [← v, Int.mul_comm]⟩
  obtain ⟨k, hk⟩ := d
  have eT : T = d1 * k := Int.eq_of_mul_eq_mul_right (a := d2) (by omega) (by rw [v, hk, Int.mul_assoc, Int.mul_comm k])
  have k0 : k ≠ 0 := fun z => by
    rw [z, Int.mul_zero] at hk
    omega
  have kp : 0 < k.natAbs := Int.natAbs_pos.mpr k0
  constructor
  · refine Nat.le_trans ?_ hT
    rw [eT, Int.natAbs_mul]
    exact Nat.le_mul_of_pos_right _ kp
  · refine Nat.le_trans ?_ hD
    rw [hk, Int.natAbs_mul]
    exact Nat.le_mul_of_pos_right _ kp
/-! ### the argument -/
def sA (n : Int × Int) : Int := n.1 * 2 ^ n.2.toNat
def sB (n : Int × Int) : Int := 2 ^ (-n.2).toNat
def argX (w : Wd5) (n : Int × Int) : Int := if w = .log then sA n - sB n else sA n
def argY (w : Wd5) (n : Int × Int) : Int := if w = .log then sA n + sB n else 1
def argQ (w : Wd5) (n : Int × Int) : Nat := if w = .log then 0 else (-n.2).toNat
def ab (w : Wd5) (n : Int × Int) : Int × Int := if w = .log then frc (sA n - sB n) (sA n + sB n) else (sA n, sB n)
theorem sB_pos (n : Int × Int) : 0 < sB n := Int.pow_pos (by decide)
theorem sA_pos {n : Int × Int} (h : 0 < n.1) : 0 < sA n := Int.mul_pos h (Int.pow_pos (by decide))
theorem arg_rel {w : Wd5} {n : Int × Int} (h : w = .log → 0 < n.1) : (ab w n).1 * (argY w n * 2 ^ argQ w n) = argX w n * (ab w n).2 ∧ 0 < (ab w n).2 ∧ 0 < argY w n ∧ (w.odd = false → argY w n = 1) := by
  unfold ab argY argX argQ
  by_cases hw : w = .log
  · rw [if_pos hw, if_pos hw, if_pos hw, if_pos hw, Int.pow_zero, Int.mul_one]
    have p : 0 < sA n + sB n := Int.add_pos (sA_pos (h hw)) (sB_pos n)
    obtain ⟨f1, f2, f3⟩ := frc_ok (t := sA n - sB n) p
    exact ⟨f3, f1, p, fun z => by rw [hw] at z; cases z⟩
  · rw [if_neg hw, if_neg hw, if_neg hw, if_neg hw, Int.one_mul]
    exact ⟨rfl, sB_pos n, by decide, fun _ => rfl⟩
theorem arg_cop {w : Wd5} {n : Int × Int} {p : Nat} (hp : Prm p) (h120 : 120 < p) (hd : (p : Int) ∣ argY w n) : w.odd = true ∧ ¬ (p : Int) ∣ argX w n := by
  unfold argY at hd
  unfold argX
  by_cases hw : w = .log
  · rw [if_pos hw] at hd ⊢
    refine ⟨by rw [hw]; rfl, fun hx => ?_⟩
    have h2 : (p : Int) ∣ 2 * sB n := by
      have e : 2 * sB n = (sA n + sB n) - (sA n - sB n) := by omega
      rw [e]
      exact Int.dvd_sub hd hx
    rcases hp.mul h2 with z | z
    · exact hp.small h120 (by decide) (by decide) z
    · exact hp.small h120 (by decide) (by decide) (hp.pow z)
  · rw [if_neg hw] at hd
    exact absurd hd (hp.small h120 (by decide) (by decide))
theorem sum_cop {w : Wd5} {n : Int × Int} {j : Nat} (hj : j ≤ 59) : ∀ p, Prm p → 120 < p → (p : Int) ∣ Tj w (argX w n) (argY w n) (argQ w n) j → (p : Int) ∣ Bj w (argY w n) j * 2 ^ (argQ w n * kk w j) → False := fun p hp h120 ht hb => by
  rcases hp.mul hb with z | z
  · obtain ⟨ho, hx⟩ := arg_cop hp h120 (Bj_dvd hp h120 hj z)
    exact Tj_dvd hp h120 ho (Bj_dvd hp h120 hj z) hx j hj ht
  · exact hp.small h120 (by decide) (by decide) (hp.pow z)
theorem sum_frc {w : Wd5} {n : Int × Int} (h : w = .log → 0 < n.1) (j : Nat) : 0 < Bj w (argY w n) j * 2 ^ (argQ w n * kk w j) ∧ frc (Tj w (argX w n) (argY w n) (argQ w n) j) (Bj w (argY w n) j * 2 ^ (argQ w n * kk w j)) = due w (ab w n).1 (ab w n).2 (j + 1) := by
  obtain ⟨r1, r2, r3, r4⟩ := arg_rel h
  have D0 : 0 < Bj w (argY w n) j * 2 ^ (argQ w n * kk w j) := Int.mul_pos (Bj_pos w r3 j) (Int.pow_pos (by decide))
  refine ⟨D0, ?_⟩
  exact (frc_eq D0 (due_pos w r2 (j + 1)) (due_cop w r2 (j + 1)) (value r4 r3 r2 r1 j).symm).symm
/-- a number of a modest size for so many terms -/
structure Sz (w : Wd5) (n : Int × Int) (J : Nat) : Prop where
  j1 : 1 ≤ J
  j60 : J ≤ 60
  n1 : n.1.natAbs < 2 ^ 100
  n2 : n.2.natAbs ≤ 100
  c : ∃ c : Nat, c ≤ 44 ∧ (sA n).natAbs ≤ 2 ^ c ∧ (sB n).natAbs ≤ 2 ^ c ∧ (c + 1) * kk w (J - 1) ≤ 1300
theorem Sz.down {w : Wd5} {n : Int × Int} {I J : Nat} (s : Sz w n J) (h1 : 1 ≤ I) (h : I ≤ J) : Sz w n I := by
  obtain ⟨c, c1, c2, c3, c4⟩ := s.c
  exact ⟨h1, Nat.le_trans h s.j60, s.n1, s.n2, c, c1, c2, c3, Nat.le_trans (Nat.mul_le_mul_left _ (kk_mono w (by omega))) c4⟩
theorem Sz.bnd {w : Wd5} {n : Int × Int} {J : Nat} (s : Sz w n J) : ∃ c, Bnd w (argX w n) (argY w n) (argQ w n) c (J - 1) ∧ (w = .log → 0 < n.1 → (ab w n).1.natAbs ≤ 2 ^ c ∧ (ab w n).2.natAbs ≤ 2 ^ c) ∧ (w ≠ .log → (ab w n).1.natAbs ≤ 2 ^ c ∧ (ab w n).2.natAbs ≤ 2 ^ c) := by
  obtain ⟨c, c1, c2, c3, c4⟩ := s.c
  have hs : (sA n + sB n).natAbs ≤ 2 ^ (c + 1) := bb_add c2 c3
  have hd : (sA n - sB n).natAbs ≤ 2 ^ (c + 1) := by
    rw [Int.sub_eq_add_neg]
    exact bb_add c2 (by rw [Int.natAbs_neg]; exact c3)
  have hq : (-n.2).toNat ≤ c := by
    have e : (sB n).natAbs = 2 ^ (-n.2).toNat := by
      unfold sB
      rw [← pow_two_cast]
      exact Int.natAbs_natCast _
    rw [e] at c3
    exact (Nat.pow_le_pow_iff_right (by decide)).mp c3
  refine ⟨c + 1, ⟨by omega, ?_, ?_, ?_, c4, by have := s.j60; omega⟩, fun hw hn => ?_, fun hw => ?_⟩
  · unfold argX
    by_cases hw : w = .log
    · rw [if_pos hw]; exact hd
    · rw [if_neg hw]; exact bb_up c2 (by omega)
  · unfold argY
    by_cases hw : w = .log
    · rw [if_pos hw]; exact hs
    · rw [if_neg hw]; exact Nat.pow_pos (by decide)
  · unfold argQ
    by_cases hw : w = .log
    · rw [if_pos hw]; omega
    · rw [if_neg hw]; omega
  · unfold ab
    rw [if_pos hw]
    obtain ⟨f1, f2⟩ := frc_bd (t := sA n - sB n) (Int.add_pos (sA_pos hn) (sB_pos n))
    exact ⟨Nat.le_trans f1 hd, Nat.le_trans f2 hs⟩
  · unfold ab
    rw [if_neg hw]
    exact ⟨bb_up c2 (by omega), bb_up c3 (by omega)⟩
/-! ### powers of two that two ints share -/
theorem or_shift (x y : Int) : ∀ k : Nat, Builtin.bitOr (2 ^ k * x) (2 ^ k * y) = 2 ^ k * Builtin.bitOr x y
  | 0 => by rw [Int.pow_zero, Int.one_mul, Int.one_mul, Int.one_mul]
  | k + 1 => by
    have e : ∀ z : Int, (2 : Int) ^ (k + 1) * z = 2 * (2 ^ k * z) := fun z => by
      rw [Int.pow_succ]
      generalize (2 : Int) ^ k = p
      grind
    rw [e, e, e, ← or_shift x y k]
    generalize 2 ^ k * x = u
    generalize 2 ^ k * y = v
    rw [bitOr_and, bitOr_and, PySem.W.kbt_halves (2 * u), if_neg (by omega), show 2 * u / 2 = u by omega, show 2 * v / 2 = v by omega]
    omega
theorem or_odd {x y : Int} (h : x % 2 = 1 ∨ y % 2 = 1) : Builtin.bitOr x y % 2 = 1 := by
  rw [bitOr_and, PySem.W.kbt_halves]
  by_cases z : x % 2 = 1 ∧ y % 2 = 1
  · rw [if_pos z]
    omega
  · rw [if_neg z]
    omega
theorem share_two : ∀ (f : Nat) (t b : Int), 0 < b → b.natAbs ≤ f → ∃ (k : Nat) (x y : Int), t = 2 ^ k * x ∧ b = 2 ^ k * y ∧ 0 < y ∧ (x % 2 = 1 ∨ y % 2 = 1)
  | 0, t, b, h, l => by omega
  | f + 1, t, b, h, l => by
    by_cases c : t % 2 = 1 ∨ b % 2 = 1
    · exact ⟨0, t, b, by rw [Int.pow_zero, Int.one_mul], by rw [Int.pow_zero, Int.one_mul], h, c⟩
    · obtain ⟨k, x, y, h1, h2, h3, h4⟩ := share_two f (t / 2) (b / 2) (by omega) (by omega)
      refine ⟨k + 1, x, y, ?_, ?_, h3, h4⟩
      · rw [Int.pow_succ]
        have : t = 2 * (t / 2) := by omega
        rw [this, h1]
        generalize (2 : Int) ^ k = p
        grind
      · rw [Int.pow_succ]
        have : b = 2 * (b / 2) := by omega
        rw [this, h2]
        generalize (2 : Int) ^ k = p
        grind
theorem share_bits {x y : Int} {k : Nat} (h : x % 2 = 1 ∨ y % 2 = 1) : Builtin.bitAnd (Builtin.bitOr (2 ^ k * x) (2 ^ k * y)) (-(Builtin.bitOr (2 ^ k * x) (2 ^ k * y))) = 2 ^ k := by
  rw [or_shift]
  have o := or_odd h
  have e : Builtin.bitOr x y = 2 * (Builtin.bitOr x y / 2) + 1 := by omega
  rw [e]
  exact PySem.W.kbt_low k _
end Onc

namespace Onc
open PySem PySem.Spec PyProof.Rows L2 Evl
def topS (i : Nat) : Stmt := PySem.Challenge.pw_oncenear_k28_sums_of_series.main.body.getD i (.Pass ⟨0, 0, 0, 0⟩)
structure Top (mg : Str → Option Value) : Prop where
  isinstance : mg "isinstance" = none
  len : mg "len" = none
  range : mg "range" = none
  ty_int : mg "int" = none
  ty_bool : mg "bool" = none
  ty_tuple : mg "tuple" = none
  ty_str : mg "str" = none
  min : mg "min" = none
  max : mg "max" = none
  abs : mg "abs" = none
  all : mg "all" = none
abbrev FnP (K : PySem.W.Frag) (x : Str) (st : Stmt) (f : Addr) (fd : FuncData) : Prop := FunD K x x (defArgs st) (defBody st) (defScope st) [] [] f fd
/-! ### promises -/
def spWhole (K : PySem.W.Frag) : Sp := fun vs H Q _ => ∃ v b, vs = [v] ∧ WholeIs K H v b ∧ Q (.bl b) H
def spNum (K : PySem.W.Frag) : Sp := fun vs H Q _ => ∃ v b, vs = [v] ∧ NumIs K H v b ∧ ∀ H', Ex H H' → Q (.bl b) H'
def spNof : Sp := fun vs H Q _ => ∃ m e : Int, vs = [.int m, .int e] ∧ ∀ H' p, Ex H H' → H p = none → H' p = some (.tup [.int (nrm m e).1, .int (nrm m e).2]) → Q (.ref p) H'
def spTens : Sp := fun vs H Q _ => ∃ k : Int, vs = [.int k] ∧ 0 ≤ k ∧ k ≤ 10000 ∧ ∀ z : Int, Q (.int z) H
def spMix : Sp := fun vs H Q _ => ∃ a k : Int, vs = [.int a, .int k] ∧ ∀ z : Int, Q (.int z) H
def spCel (K : PySem.W.Frag) : Sp := fun vs H Q _ => ∃ (a : Addr) (ns : List Int) (k : Int), vs = [.ref a, .int k] ∧ SqL K H a (ns.map V.int) ∧ 0 ≤ k ∧ k < 1000 ∧ ∀ z : Int, Q (.int z) H
def spTake : Sp := fun vs H Q _ => ∃ (p : Addr) (x n : Int), vs = [.ref p, .int n] ∧ H p = some (.lst [.int x]) ∧ 0 < n ∧ n.natAbs.log2 < 9000 ∧ Q (.int (x % n)) (upd H p (.lst [.int (x / n)]))
def spNumber : Sp := fun vs H Q _ => ∃ (p : Addr) (x : Int), vs = [.ref p] ∧ H p = some (.lst [.int x]) ∧
  ∀ H' q (x' m e : Int), (∀ b o, H b = some o → b ≠ p → H' b = some o) → H' p = some (.lst [.int x']) → H q = none → H' q = some (.tup [.int m, .int e]) → isNumB m e = true → m.natAbs < 2 ^ 201 → e.natAbs < 2000 → Q (.ref q) H'
theorem log_small {z : Int} {k : Nat} (h0 : 0 < z) (h : z ≤ 2 ^ k) (hk : k < 9000) : z.natAbs.log2 < 9000 := by
  have h1 : z.natAbs < 2 ^ (k + 1) := by
    have e : (2 : Int) ^ (k + 1) = 2 ^ k * 2 := Int.pow_succ ..
    have e2 : ((2 ^ (k + 1) : Nat) : Int) = 2 ^ (k + 1) := pow_two_cast _
    omega
  have h2 : z.natAbs.log2 < k + 1 := PySem.Flt.log2_lt_of (Nat.succ_pos k) h1
  omega
/-! ### evaluation beside a pile: all is kept but the pile p -/
def Pl (p : Addr) (H : Hp) : Prop := ∃ x : Int, H p = some (.lst [.int x])
def EvK (p : Addr) (P : Hp → V → Prop) (te : TE) (σ : L2.St) (H : Hp) : Prop := ∀ H1, Keeps p H H1 → Pl p H1 → ∀ Q : VK, (∀ v H2, Keeps p H1 H2 → Pl p H2 → P H2 v → Q v H2) → te σ H1 Q
abbrev EvI (p : Addr) (S : Int → Prop) (te : TE) (σ : L2.St) (H : Hp) : Prop := EvK p (fun _ v => ∃ z, v = .int z ∧ S z) te σ H
section
variable {K : PySem.W.Frag} {p : Addr} {σ : L2.St} {H H' : Hp} {ta tb te : TE} {S T U : Int → Prop}
theorem Keeps.refl (p : Addr) (H : Hp) : Keeps p H H := fun _ _ h _ => h
theorem EvK.mono {P : Hp → V → Prop} (h : EvK p P te σ H) (k : Keeps p H H') : EvK p P te σ H' := fun H1 k1 l Q q => h H1 (k.trans k1) l Q q
theorem EvK.imp {P P' : Hp → V → Prop} (h : EvK p P te σ H) (i : ∀ H v, P H v → P' H v) : EvK p P' te σ H := fun H1 k l Q q => h H1 k l Q fun v H2 k2 l2 hv => q v H2 k2 l2 (i H2 v hv)
theorem evi_imp (h : EvI p S te σ H) (i : ∀ z, S z → T z) : EvI p T te σ H := h.imp fun _ _ ⟨z, e, s⟩ => ⟨z, e, i z s⟩
theorem evi_c {z : Int} (h : S z) : EvI p S (tC (.int z)) σ H := fun H1 k l Q q => q (.int z) H1 (Keeps.refl p H1) l ⟨z, rfl, h⟩
theorem evi_var {i : Nat} {z : Int} (hi : σ[i]? = some (some (.int z))) (h : S z) : EvI p S (tVar i) σ H := fun H1 k l Q q => ⟨.int z, hi, q (.int z) H1 (Keeps.refl p H1) l ⟨z, rfl, h⟩⟩
theorem evi_op {g : Int → Int → Int} (ha : EvI p S ta σ H) (hb : EvI p T tb σ H) (h : ∀ a b, S a → T b → U (g a b)) : EvI p U (tOp (rI0 fun i j => .int (g i j)) ta tb) σ H := fun H1 k l Q q =>
  ha H1 k l _ fun v H2 k2 l2 ⟨a, e, sa⟩ => hb H2 (k.trans k2) l2 _ fun w H3 k3 l3 ⟨b, e2, sb⟩ => by
    subst e e2
    exact ⟨a, b, rfl, rfl, q _ H3 (k2.trans k3) l3 ⟨_, rfl, h a b sa sb⟩⟩
theorem evi_opC {C : Int → Int → Prop} {g : Int → Int → Int} (ha : EvI p S ta σ H) (hb : EvI p T tb σ H) (hc : ∀ a b, S a → T b → C a b) (h : ∀ a b, S a → T b → U (g a b)) : EvI p U (tOp (rI C fun i j => .int (g i j)) ta tb) σ H := fun H1 k l Q q =>
  ha H1 k l _ fun v H2 k2 l2 ⟨a, e, sa⟩ => hb H2 (k.trans k2) l2 _ fun w H3 k3 l3 ⟨b, e2, sb⟩ => by
    subst e e2
    exact ⟨a, b, rfl, rfl, hc a b sa sb, q _ H3 (k2.trans k3) l3 ⟨_, rfl, h a b sa sb⟩⟩
theorem pl_upd {x : Int} : Pl p (upd H p (.lst [.int x])) := ⟨x, upd_same⟩
theorem pl_new {q : Addr} {o : HO} (l : Pl p H) (hq : H q = none) : Pl p (upd H q o) := by
  obtain ⟨x, h⟩ := l
  exact ⟨x, by rw [upd_ne (ne_of_none h hq)]; exact h⟩
theorem pl_ex (l : Pl p H) (e : Ex H H') : Pl p H' := by
  obtain ⟨x, h⟩ := l
  exact ⟨x, e _ _ h⟩
theorem evi_take {i : Nat} {N : Int → Prop} (hi : σ[i]? = some (some (.ref p))) (hn : EvI p N te σ H) (h : ∀ n, N n → 0 < n ∧ n.natAbs.log2 < 9000) (hT : ∀ n z, N n → 0 ≤ z → z < n → T z) : EvI p T (tCall spTake [] E0 (tCons (tVar i) (tCons te tNil))) σ H := fun H1 k l Q q =>
  ⟨.ref p, hi, hn H1 k l _ fun v H2 k2 l2 ⟨n, e, sn⟩ => by
    subst e
    obtain ⟨x, hx⟩ := l2
    obtain ⟨h0, h1⟩ := h n sn
    exact ⟨p, x, n, rfl, hx, h0, h1, q _ _ (k2.trans keeps_upd) pl_upd ⟨_, rfl, hT n _ sn (Int.emod_nonneg _ (by omega)) (Int.emod_lt_of_pos _ h0)⟩⟩⟩
/-- several, each of its own set -/
def All2 : List (Int → Prop) → List Int → Prop
  | [], [] => True
  | S :: Ss, z :: zs => S z ∧ All2 Ss zs
  | _, _ => False
theorem all2_len : ∀ {Ss : List (Int → Prop)} {zs : List Int}, All2 Ss zs → zs.length = Ss.length
  | [], [], _ => rfl
  | _ :: _, _ :: _, h => congrArg Nat.succ (all2_len h.2)
theorem all2_app : ∀ {Ss Ts : List (Int → Prop)} {zs ys : List Int}, All2 Ss zs → All2 Ts ys → All2 (Ss ++ Ts) (zs ++ ys)
  | [], _, [], _, _, h => h
  | _ :: _, _, _ :: _, _, h1, h => ⟨h1.1, all2_app h1.2 h⟩
theorem all2_at : ∀ {Ss : List (Int → Prop)} {zs : List Int}, All2 Ss zs → ∀ {i : Nat} {S : Int → Prop}, Ss[i]? = some S → ∃ z, (zs.map V.int)[i]? = some (.int z) ∧ S z
  | [], [], _, i, S, h => by simp at h
  | T :: _, z :: _, g, 0, S, h => by
    have e : T = S := Option.some.inj h
    subst e
    exact ⟨z, rfl, g.1⟩
  | _ :: _, _ :: _, g, i + 1, S, h => all2_at g.2 (i := i) h
def EvIs (p : Addr) (Ss : List (Int → Prop)) (ta : TA) (σ : L2.St) (H : Hp) : Prop := ∀ H1, Keeps p H H1 → Pl p H1 → ∀ Q : List V → Hp → Prop, (∀ zs H2, Keeps p H1 H2 → Pl p H2 → All2 Ss zs → Q (zs.map V.int) H2) → ta σ H1 Q
theorem evis_nil : EvIs p [] tNil σ H := fun H1 k l Q q => q [] H1 (Keeps.refl p H1) l trivial
theorem evis_cons {tr : TA} {Ss : List (Int → Prop)} (h : EvI p S ta σ H) (hr : EvIs p Ss tr σ H) : EvIs p (S :: Ss) (tCons ta tr) σ H := fun H1 k l Q q =>
  h H1 k l _ fun v H2 k2 l2 ⟨z, e, s⟩ => hr H2 (k.trans k2) l2 _ fun zs H3 k3 l3 hz => by
    subst e
    exact q (z :: zs) H3 (k2.trans k3) l3 ⟨s, hz⟩
/-- a list of ints, elsewhere than the pile -/
def LiAt (p : Addr) (Ss : List (Int → Prop)) (H : Hp) (v : V) : Prop := ∃ l zs, v = .ref l ∧ l ≠ p ∧ H l = some (.lst (zs.map V.int)) ∧ All2 Ss zs
theorem li_keep {Ss : List (Int → Prop)} {v : V} (h : LiAt p Ss H v) (k : Keeps p H H') : LiAt p Ss H' v := by
  obtain ⟨l, zs, e, ne, hl, ha⟩ := h
  exact ⟨l, zs, e, ne, k _ _ hl ne, ha⟩
theorem keeps_new {q : Addr} {o : HO} (hq : H q = none) : Keeps p H (upd H q o) := keeps_ex (Ex.new hq)
theorem evk_lst {tr : TA} {Ss : List (Int → Prop)} (h : EvIs p Ss tr σ H) (hl : Ss.length ≤ 1000 := by decide) : EvK p (LiAt p Ss) (tLst tr) σ H := fun H1 k l Q q =>
  h H1 k l _ fun zs H2 k2 l2 hz => ⟨sz_of (by rw [List.length_map, all2_len hz]; omega), fun r hr => q (.ref r) _ (k2.trans (keeps_new hr)) (pl_new l2 hr) ⟨r, zs, rfl, (fun e => by obtain ⟨x, hx⟩ := l2; rw [e, hx] at hr; cases hr), upd_same, hz⟩⟩
theorem evk_var {P : Hp → V → Prop} {i : Nat} {v : V} (hi : σ[i]? = some (some v)) (h : ∀ H1, Keeps p H H1 → Pl p H1 → P H1 v) : EvK p P (tVar i) σ H := fun H1 k l Q q => ⟨v, hi, q v H1 (Keeps.refl p H1) l (h H1 k l)⟩
theorem evk_cat {Ss Ts : List (Int → Prop)} (ha : EvK p (LiAt p Ss) ta σ H) (hb : EvK p (LiAt p Ts) tb σ H) (hl : Ss.length + Ts.length ≤ 1000 := by decide) : EvK p (LiAt p (Ss ++ Ts)) (tOp rCat ta tb) σ H := fun H1 k l Q q =>
  ha H1 k l _ fun v H2 k2 l2 hv => hb H2 (k.trans k2) l2 _ fun w H3 k3 l3 hw => by
    obtain ⟨a, zs, rfl, na, hza, aa⟩ := li_keep hv k3
    obtain ⟨b, ys, rfl, nb, hyb, ab⟩ := hw
    refine ⟨a, b, _, _, rfl, rfl, hza, hyb, sz_of (by rw [List.length_map, List.length_map, all2_len aa, all2_len ab]; omega), fun r hr => q (.ref r) _ ((k2.trans k3).trans (keeps_new hr)) (pl_new l3 hr) ⟨r, zs ++ ys, rfl, (fun e => by obtain ⟨x, hx⟩ := l3; rw [e, hx] at hr; cases hr), by rw [List.map_append]; exact upd_same, all2_app aa ab⟩⟩
/-- an item of a list of ints, by an int that is known to be one of a set -/
theorem evi_ix {Ss : List (Int → Prop)} {W : Int → Prop} (ha : EvK p (LiAt p Ss) ta σ H) (hb : EvI p W tb σ H) (h : ∀ w, W w → 0 ≤ w ∧ ∃ R, Ss[w.toNat]? = some R ∧ ∀ z, R z → U z) : EvI p U (tOp (rIxL K) ta tb) σ H := fun H1 k l Q q =>
  ha H1 k l _ fun v H2 k2 l2 hv => hb H2 (k.trans k2) l2 _ fun w H3 k3 l3 ⟨i, e, hi⟩ => by
    subst e
    obtain ⟨a, zs, rfl, na, hza, aa⟩ := li_keep hv k3
    obtain ⟨i0, R, hR, hU⟩ := h i hi
    obtain ⟨z, hz, sz⟩ := all2_at aa hR
    obtain ⟨j, rfl⟩ : ∃ j : Nat, i = (j : Int) := ⟨i.toNat, by omega⟩
    rw [Int.toNat_natCast] at hz
    exact ⟨a, _, _, _, rfl, rfl, sq_of hza, atI_nat hz, q _ H3 (k2.trans k3) l3 ⟨z, rfl, hU z sz⟩⟩
theorem k_asg {P : Hp → V → Prop} {i : Nat} {tz : TS} {D : Ends} (h : EvK p P te σ H) (l : Pl p H) (k : ∀ v H1, Keeps p H H1 → Pl p H1 → P H1 v → tz D (σ.set i (some v)) H1) : tSeq (tAsg te (gName i)) tz D σ H := h H (Keeps.refl p H) l _ fun v H2 k2 l2 hv => k v H2 k2 l2 hv
theorem k_asg1 {P : Hp → V → Prop} {i : Nat} {D : Ends} (h : EvK p P te σ H) (l : Pl p H) (k : ∀ v H1, Keeps p H H1 → Pl p H1 → P H1 v → D.nx (σ.set i (some v)) H1) : tAsg te (gName i) D σ H := h H (Keeps.refl p H) l _ fun v H2 k2 l2 hv => k v H2 k2 l2 hv
theorem k_ret {P : Hp → V → Prop} {D : Ends} (h : EvK p P te σ H) (l : Pl p H) (k : ∀ v H1, Keeps p H H1 → Pl p H1 → P H1 v → D.rt v H1) : tRet te D σ H := h H (Keeps.refl p H) l _ fun v H2 k2 l2 hv => k v H2 k2 l2 hv
theorem k_asgL {tr : TA} {Ss : List (Int → Prop)} {i : Nat} {tz : TS} {D : Ends} (h : EvIs p Ss tr σ H) (l : Pl p H) (hl : Ss.length ≤ 1000) (k : ∀ r zs H1, Keeps p H H1 → Pl p H1 → H r = none → r ≠ p → H1 r = some (.lst (zs.map V.int)) → All2 Ss zs → tz D (σ.set i (some (.ref r))) H1) : tSeq (tAsg (tLst tr) (gName i)) tz D σ H :=
  h H (Keeps.refl p H) l _ fun zs H2 k2 l2 hz => ⟨sz_of (by rw [List.length_map, all2_len hz]; omega), fun r hr => by
    have rp : r ≠ p := fun e => by
      obtain ⟨x, hx⟩ := l2
      rw [e, hx] at hr
      cases hr
    refine k r zs _ (k2.trans (keeps_new hr)) (pl_new l2 hr) ?_ rp upd_same hz
    cases hH : H r with
    | none => rfl
    | some o =>
      rw [k2 _ _ hH rp] at hr
      cases hr⟩
theorem fresh_keep {r : Addr} (k : Keeps p H H') (hr : H' r = none) (rp : r ≠ p) : H r = none := by
  cases hH : H r with
  | none => rfl
  | some o =>
    rw [k _ _ hH rp] at hr
    cases hr
theorem keeps_mut {r : Addr} {o : HO} (k : Keeps p H H') (hr : H r = none) : Keeps p H (upd H' r o) := fun b u hb hbp => by
  rw [upd_ne (ne_of_none hb hr)]
  exact k b u hb hbp
/-- a number made of two ints -/
theorem evk_nof {R : Int → Int → Prop} {B : Nat} (ha : EvI p S ta σ H) (hb : EvI p T tb σ H) (h : ∀ a b, S a → T b → R a b ∧ Bd (nrm a b) B) : EvK p (fun H v => ∃ a b, R a b ∧ Gn K H v (nrm a b) B) (tCall spNof [] E0 (tCons ta (tCons tb tNil))) σ H := fun H1 k l Q q =>
  ha H1 k l _ fun v H2 k2 l2 ⟨a, e, sa⟩ => hb H2 (k.trans k2) l2 _ fun w H3 k3 l3 ⟨b, e2, sb⟩ => by
    subst e e2
    obtain ⟨h1, h2⟩ := h a b sa sb
    exact ⟨a, b, rfl, fun H4 r e4 _ hr => q (.ref r) H4 ((k2.trans k3).trans (keeps_ex e4)) (pl_ex l3 e4) ⟨a, b, h1, numAt_of hr, nrm_num a b, h2⟩⟩
end
/-! ### words and places -/
def fns : List Str := ["root", "exp", "log", "sin", "cos", "arc"]
structure Wd (mg : Str → Option Value) (K : PySem.W.Frag) (FA : Addr) : Prop where
  m : mg "FUNCTIONS" = some (.ref FA)
  t : ∀ H : Hp, SqT K H FA (fns.map V.str)
def PlaceOf (w : Str) (n : Int × Int) : Prop := (w = "root" → 0 ≤ n.1) ∧ (w = "log" → 0 < n.1) ∧ (w = "exp" → pord (-125, 3) n ≤ 0 ∧ pord n (125, 3) ≤ 0) ∧ (w ≠ "root" → w ≠ "log" → w ≠ "exp" → n.1 = 0 ∨ psize n < 800)
def OptAt (K : PySem.W.Frag) (H : Hp) (v : V) : Option (Int × Int) → Prop
  | none => v = .non
  | some n => NumAt K H v n
theorem optAt_ex {K : PySem.W.Frag} {H H' : Hp} {v : V} {o : Option (Int × Int)} (e : Ex H H') (h : OptAt K H v o) : OptAt K H' v o := by
  cases o with
  | none => exact h
  | some n => exact numAt_ex e h
noncomputable def exRoot (n : Int × Int) : Option (Int × Int) := if n.2 % 2 = 1 then none else if froot n.1 * froot n.1 = n.1 then some (froot n.1, n.2 / 2) else none
noncomputable def exW (w : Str) (n : Int × Int) : Option (Int × Int) := if w = "root" then exRoot n else if w = "log" then (if n = (1, 0) then some (0, 0) else none) else if n ≠ (0, 0) then none else if w = "exp" ∨ w = "cos" then some (1, 0) else some (0, 0)
def optD : Option (Int × Int) → PyData
  | none => .none
  | some n => pairD n
theorem optAt_dp {K : PySem.W.Frag} {H : Hp} {v : V} {o : Option (Int × Int)} (h : OptAt K H v o) : Dp K H v (optD o) := by
  cases o with
  | none =>
    rw [show v = .non from h]
    exact .non
  | some n => exact numAt_dp h
theorem opt_shaped (o : Option (Int × Int)) : SeqAt.shaped (optD o) = true := by
  cases o <;> rfl
theorem opt_lay (o : Option (Int × Int)) : PyData.canLay0 (optD o) = true := by
  cases o <;> rfl
theorem v_str {a b : Str} : (decide (V.str a = V.str b)) = decide (a = b) := decide_eq_decide.mpr ⟨fun z => V.str.inj z, fun z => congrArg V.str z⟩
theorem in_fns {w : Str} (h : w ∈ fns) : inV (.str w) (fns.map V.str) = true := by
  simp only [fns, List.mem_cons, List.not_mem_nil, or_false] at h
  rcases h with rfl | rfl | rfl | rfl | rfl | rfl <;> decide +kernel
def spNeedWd (K : PySem.W.Frag) (FA : Addr) : Sp := fun vs H Q _ => ∃ w, vs = [.str w, .ref FA] ∧ SqT K H FA (fns.map V.str) ∧ w ∈ fns ∧ Q .non H
def spBetw (K : PySem.W.Frag) : Sp := fun vs H Q _ => ∃ u v z n a b, vs = [u, v, z] ∧ Gn K H u n 3000 ∧ Gn K H v a 3000 ∧ Gn K H z b 3000 ∧ ∀ H', Ex H H' → Q (.bl (decide (pord a n ≤ 0) && decide (pord n b ≤ 0))) H'
def spIsPl (K : PySem.W.Frag) : Sp := fun vs H Q _ => ∃ w v n, vs = [.str w, v] ∧ Gn K H v n 3000 ∧ PlaceOf w n ∧ ∀ H', Ex H H' → Q (.bl true) H'
def spNeedPl (K : PySem.W.Frag) : Sp := fun vs H Q _ => ∃ w v n, vs = [.str w, v] ∧ Gn K H v n 3000 ∧ PlaceOf w n ∧ ∀ H', Ex H H' → Q .non H'
def spExR (K : PySem.W.Frag) : Sp := fun vs H Q _ => ∃ v n, vs = [v] ∧ Gn K H v n 3000 ∧ 0 ≤ n.1 ∧ ∀ H' z, Ex H H' → OptAt K H' z (exRoot n) → Q z H'
def spExA (K : PySem.W.Frag) : Sp := fun vs H Q _ => ∃ w v n, vs = [.str w, v] ∧ Gn K H v n 3000 ∧ PlaceOf w n ∧ ∀ H' z, Ex H H' → OptAt K H' z (exW w n) → Q z H'
def spExW (K : PySem.W.Frag) : Sp := fun vs H Q _ => ∃ w v n, vs = [.str w, v] ∧ w ∈ fns ∧ Gn K H v n 3000 ∧ PlaceOf w n ∧ ∀ H' z, Ex H H' → OptAt K H' z (exW w n) → Q z H'
def spIsEx (K : PySem.W.Frag) : Sp := fun vs H Q _ => ∃ w v n, vs = [.str w, v] ∧ w ∈ fns ∧ Gn K H v n 3000 ∧ PlaceOf w n ∧ ∀ H', Ex H H' → Q (.bl (exW w n).isSome) H'
theorem in_2 {a b w : Str} (h : inV (.str w) [.str a, .str b] = true) : w = a ∨ w = b := by
  simp only [inV, List.any_cons, List.any_nil, Bool.or_false, Bool.or_eq_true] at h
  rcases h with z | z
  · exact .inl (Eq.symm (by simpa [eqV] using z))
  · exact .inr (Eq.symm (by simpa [eqV] using z))
theorem in_2' {a b w : Str} (h : w = a ∨ w = b) : inV (.str w) [.str a, .str b] = true := by
  simp only [inV, List.any_cons, List.any_nil, Bool.or_false, Bool.or_eq_true]
  rcases h with rfl | rfl
  · exact .inl (by simp [eqV])
  · exact .inr (by simp [eqV])
theorem in_two {w : Str} (h : inV (.str w) [.str "exp", .str "cos"] = true) : w = "exp" ∨ w = "cos" := in_2 h
theorem two_in {w : Str} (h : w = "exp" ∨ w = "cos") : inV (.str w) [.str "exp", .str "cos"] = true := in_2' h
/-! ### series -/
def Wd5.s : Wd5 → Str
  | .exp => "exp" | .sin => "sin" | .cos => "cos" | .arc => "arc" | .log => "log"
theorem ws_eq (w c : Wd5) : decide (V.str w.s = V.str c.s) = decide (w = c) := by cases w <;> cases c <;> decide +kernel
def ser5 : List Str := ["exp", "sin", "cos", "arc", "log"]
theorem in_ser (w : Wd5) : inV (.str w.s) (ser5.map V.str) = true := by cases w <;> decide +kernel
structure SerC (mg : Str → Option Value) (K : PySem.W.Frag) (w : World) (SA OP : Addr) : Prop where
  m : mg "SERIES" = some (.ref SA)
  mo : mg "ODD_PRIMES" = some (.ref OP)
  tab : TabK K w SA ser5
  it : ∀ x : Wd5, ItK K SA x.s [.int (x.k0 : Int), .int (x.st : Int), .int x.tn]
  odd : ∀ H : Hp, SqT K H OP (oddP.map fun p : Nat => V.int (p : Int))
theorem iop_mulX {X : Cx} : OpR X (inplaceOp .Mult) (rI CMulX fun i j => .int (i * j)) := opI fun _ _ _ _ _ _ _ hc q => imul_int q hc.ok
theorem decV (i j : Int) : decide (V.int i = V.int j) = decide (i = j) := decide_eq_decide.mpr ⟨V.int.inj, congrArg _⟩
theorem mx {i j : Int} {a b : Nat} (ha : i.natAbs ≤ 2 ^ a) (hb : j.natAbs ≤ 2 ^ b) (h : a + b ≤ 100000) : CMulX i j := mulx_ok (bb_lt ha) (bb_lt hb) (by omega)
theorem shl_le {i : Int} {j n : Nat} (h : i.natAbs ≤ 2 ^ n) (hn : n + j ≤ 100000) : CShl i (j : Int) := shl_ok (bb_lt h) (by omega)
def NewT (H : Hp) (Q : VK) (vs : List V) : Prop := ∀ H' p, Ex H H' → H' p = some (.tup vs) → Q (.ref p) H'
theorem NewT.to {H H1 : Hp} {Q : VK} {vs : List V} (q : NewT H Q vs) (e : Ex H H1) : NewT H1 Q vs := fun H' p e2 hp => q H' p (e.trans e2) hp
def spNeedW5 (K : PySem.W.Frag) : Sp := fun vs H Q _ => ∃ (w : Wd5) (a : Addr), vs = [.str w.s, .ref a] ∧ SqT K H a (ser5.map V.str) ∧ Q .non H
def spRat (K : PySem.W.Frag) : Sp := fun vs H Q _ => ∃ v n, vs = [v] ∧ NumAt K H v n ∧ 0 < n.1 ∧ n.1.natAbs < 2 ^ 100 ∧ n.2.natAbs ≤ 100 ∧ NewT H Q [.int (sA n), .int (sB n)]
def spArg (K : PySem.W.Frag) : Sp := fun vs H Q _ => ∃ (w : Wd5) (v : V) (n : Int × Int), vs = [.str w.s, v] ∧ NumAt K H v n ∧ (w = .log → 0 < n.1) ∧ n.1.natAbs < 2 ^ 100 ∧ n.2.natAbs ≤ 100 ∧ NewT H Q [.int (argX w n), .int (argY w n), .int (argQ w n : Int)]
def spFp : Sp := fun vs H Q _ => ∃ (w : Wd5) (X : Int), vs = [.str w.s, .int X] ∧ X.natAbs ≤ 2 ^ 1000 ∧ Q (.int (Pj w X 0)) H
def spSumT (K : PySem.W.Frag) : Sp := fun vs H Q _ => ∃ (w : Wd5) (v : V) (n : Int × Int) (j : Nat), vs = [.str w.s, v, .int ((j : Int) + 1)] ∧ NumAt K H v n ∧ (w = .log → 0 < n.1) ∧ Sz w n (j + 1) ∧ NewT H Q [.int (Tj w (argX w n) (argY w n) (argQ w n) j), .int (Bj w (argY w n) j * 2 ^ (argQ w n * kk w j))]
theorem Pj_succ (w : Wd5) (X : Int) (j : Nat) : Pj w X (j + 1) = Pj w X j * (w.tn * X ^ w.st) := by
  unfold Pj
  rw [kk_succ, Int.pow_succ, Int.pow_add]
  generalize w.tn ^ j = a
  generalize w.tn = b
  generalize X ^ kk w j = c
  generalize X ^ w.st = d
  generalize w.two = e
  grind
theorem B0 (w : Wd5) (Y : Int) : Bj w Y 0 = if w.k0 = 1 then Y else 1 := by
  cases w <;> simp [Bj, Wj, cj, kk, Wd5.k0, Wd5.st, Wd5.odd, fct, Int.pow_one]
theorem k01 (w : Wd5) : w.k0 = 0 ∨ w.k0 = 1 := by cases w <;> simp [Wd5.k0]
theorem st12 (w : Wd5) : w.st = 1 ∨ w.st = 2 := by cases w <;> simp [Wd5.st]
theorem in_al (w : Wd5) : inV (.str w.s) [.str "arc", .str "log"] = w.odd := by cases w <;> decide +kernel
def sqY (w : Wd5) (Y : Int) : Int := if w.st = 2 then Y * Y else Y
theorem gj_sq (w : Wd5) (Y : Int) (i : Nat) : gj w Y i = if w.odd = true then sqY w Y * ((kk w i : Int) + 2) else if w.st = 1 then (kk w i : Int) + 1 else ((kk w i : Int) + 1) * ((kk w i : Int) + 2) := by
  unfold gj sqY
  by_cases ho : w.odd = true
  · rw [if_pos ho, if_pos ho, if_pos (odd_st ho).1]
  · rw [if_neg ho, if_neg ho]
theorem if_pair {t : TT} {ta tb : TA} {g : TG} {tz : TS} {D : Ends} {σ : L2.St} {H : Hp} {b : Bool} (u v : V) (h : EvT t σ H b) (h1 : b = true → ∀ H1, Ex H H1 → ∀ Q : List V → Hp → Prop, Q [u, v] H1 → ta σ H1 Q) (h2 : b = false → ∀ H1, Ex H H1 → ∀ Q : List V → Hp → Prop, Q [u, v] H1 → tb σ H1 Q)
    (k : ∀ H2 p, Ex H H2 → H2 p = some (.tup [u, v]) → g (.ref p) σ H2 (tz D)) : tSeq (tAsg (tIf t (tTup ta) (tTup tb)) g) tz D σ H := h H (Ex.refl H) _ fun H1 e1 => by
  cases b with
  | true => exact h1 rfl H1 e1 _ ⟨by show 2 ≤ sizeLine; decide, fun p hp => k _ p (e1.trans (Ex.new hp)) upd_same⟩
  | false => exact h2 rfl H1 e1 _ ⟨by show 2 ≤ sizeLine; decide, fun p hp => k _ p (e1.trans (Ex.new hp)) upd_same⟩
abbrev s_is_whole : Stmt := topS 5
theorem sc_is_whole : FnScope ["thing"] ["thing"] (defScope s_is_whole) := ⟨rfl, rfl, rfl, by decide +kernel, rfl, by decide +kernel, by decide +kernel⟩
abbrev s_is_whole_within : Stmt := topS 6
theorem sc_is_whole_within : FnScope ["thing", "least", "most"] ["thing", "least", "most"] (defScope s_is_whole_within) := ⟨rfl, rfl, rfl, by decide +kernel, rfl, by decide +kernel, by decide +kernel⟩
abbrev s_need_whole_within : Stmt := topS 7
theorem sc_need_whole_within : FnScope ["thing", "least", "most"] ["thing", "least", "most"] (defScope s_need_whole_within) := ⟨rfl, rfl, rfl, by decide +kernel, rfl, by decide +kernel, by decide +kernel⟩
abbrev s_is_number : Stmt := topS 10
theorem sc_is_number : FnScope ["thing", "m", "e"] ["thing"] (defScope s_is_number) := ⟨rfl, rfl, rfl, by decide +kernel, rfl, by decide +kernel, by decide +kernel⟩
abbrev s_need_number : Stmt := topS 11
theorem sc_need_number : FnScope ["thing"] ["thing"] (defScope s_need_number) := ⟨rfl, rfl, rfl, by decide +kernel, rfl, by decide +kernel, by decide +kernel⟩
abbrev s_compared : Stmt := topS 12
theorem sc_compared : FnScope ["one", "other", "m", "e", "n", "f", "size", "other_size"] ["one", "other"] (defScope s_compared) := ⟨rfl, rfl, rfl, by decide +kernel, rfl, by decide +kernel, by decide +kernel⟩
abbrev s_size_of : Stmt := topS 13
theorem sc_size_of : FnScope ["number"] ["number"] (defScope s_size_of) := ⟨rfl, rfl, rfl, by decide +kernel, rfl, by decide +kernel, by decide +kernel⟩
abbrev s_need_word : Stmt := topS 15
theorem sc_need_word : FnScope ["thing", "words"] ["thing", "words"] (defScope s_need_word) := ⟨rfl, rfl, rfl, by decide +kernel, rfl, by decide +kernel, by decide +kernel⟩
abbrev s_is_between : Stmt := topS 19
theorem sc_is_between : FnScope ["number", "least", "most"] ["number", "least", "most"] (defScope s_is_between) := ⟨rfl, rfl, rfl, by decide +kernel, rfl, by decide +kernel, by decide +kernel⟩
abbrev s_is_place : Stmt := topS 18
theorem sc_is_place : FnScope ["word", "number"] ["word", "number"] (defScope s_is_place) := ⟨rfl, rfl, rfl, by decide +kernel, rfl, by decide +kernel, by decide +kernel⟩
abbrev s_need_place : Stmt := topS 20
theorem sc_need_place : FnScope ["word", "number"] ["word", "number"] (defScope s_need_place) := ⟨rfl, rfl, rfl, by decide +kernel, rfl, by decide +kernel, by decide +kernel⟩
abbrev s_ratio_of : Stmt := topS 22
theorem sc_ratio_of : FnScope ["number", "m", "e"] ["number"] (defScope s_ratio_of) := ⟨rfl, rfl, rfl, by decide +kernel, rfl, by decide +kernel, by decide +kernel⟩
abbrev s_first_power : Stmt := topS 31
theorem sc_first_power : FnScope ["word", "x_top"] ["word", "x_top"] (defScope s_first_power) := ⟨rfl, rfl, rfl, by decide +kernel, rfl, by decide +kernel, by decide +kernel⟩
abbrev s_argument_of : Stmt := topS 29
theorem sc_argument_of : FnScope ["word", "number", "m", "e", "top", "bottom"] ["word", "number"] (defScope s_argument_of) := ⟨rfl, rfl, rfl, by decide +kernel, rfl, by decide +kernel, by decide +kernel⟩
abbrev s_sum_of_terms : Stmt := topS 30
theorem sc_sum_of_terms : FnScope ["word", "number", "many", "x_top", "x_bottom", "twos", "k", "stride", "turn", "total", "power", "bottom", "shift", "own", "place", "grow"] ["word", "number", "many"] (defScope s_sum_of_terms) := ⟨rfl, rfl, rfl, by decide +kernel, rfl, by decide +kernel, by decide +kernel⟩
abbrev s_odd_primes_of_both : Stmt := topS 33
theorem sc_odd_primes_of_both : FnScope ["top", "bottom", "every", "prime"] ["top", "bottom"] (defScope s_odd_primes_of_both) := ⟨rfl, rfl, rfl, by decide +kernel, rfl, by decide +kernel, by decide +kernel⟩
abbrev s_lowest : Stmt := topS 32
theorem sc_lowest : FnScope ["top", "bottom", "both", "twos", "prime"] ["top", "bottom"] (defScope s_lowest) := ⟨rfl, rfl, rfl, by decide +kernel, rfl, by decide +kernel, by decide +kernel⟩
abbrev s_need_series : Stmt := topS 28
theorem sc_need_series : FnScope ["word", "number", "many"] ["word", "number", "many"] (defScope s_need_series) := ⟨rfl, rfl, rfl, by decide +kernel, rfl, by decide +kernel, by decide +kernel⟩
abbrev s_series_sum : Stmt := topS 27
theorem sc_series_sum : FnScope ["word", "number", "many", "top", "bottom"] ["word", "number", "many"] (defScope s_series_sum) := ⟨rfl, rfl, rfl, by decide +kernel, rfl, by decide +kernel, by decide +kernel⟩
abbrev s_law_mixed : Stmt := topS 35
theorem sc_law_mixed : FnScope ["_law_cell_here", "_law_k", "_law_number_told"] ["_law_cell_here", "_law_k"] (defScope s_law_mixed) := ⟨rfl, rfl, rfl, by decide +kernel, rfl, by decide +kernel, by decide +kernel⟩
abbrev s_law_cell : Stmt := topS 36
theorem sc_law_cell : FnScope ["_law_script", "_law_k", "_law_cell_here", "_law_found", "_law_j"] ["_law_script", "_law_k"] (defScope s_law_cell) := ⟨rfl, rfl, rfl, by decide +kernel, rfl, by decide +kernel, by decide +kernel⟩
abbrev s_law_take : Stmt := topS 37
theorem sc_law_take : FnScope ["_law_pile", "_law_size", "_law_digit"] ["_law_pile", "_law_size"] (defScope s_law_take) := ⟨rfl, rfl, rfl, by decide +kernel, rfl, by decide +kernel, by decide +kernel⟩
abbrev s_law_odd : Stmt := topS 38
theorem sc_law_odd : FnScope ["_law_m", "_law_e"] ["_law_m", "_law_e"] (defScope s_law_odd) := ⟨rfl, rfl, rfl, by decide +kernel, rfl, by decide +kernel, by decide +kernel⟩
abbrev s_law_common : Stmt := topS 39
theorem sc_law_common : FnScope ["_law_one", "_law_other"] ["_law_one", "_law_other"] (defScope s_law_common) := ⟨rfl, rfl, rfl, by decide +kernel, rfl, by decide +kernel, by decide +kernel⟩
abbrev s_law_frac : Stmt := topS 40
theorem sc_law_frac : FnScope ["_law_top", "_law_bottom", "_law_share"] ["_law_top", "_law_bottom"] (defScope s_law_frac) := ⟨rfl, rfl, rfl, by decide +kernel, rfl, by decide +kernel, by decide +kernel⟩
abbrev s_law_plus : Stmt := topS 41
theorem sc_law_plus : FnScope ["_law_one", "_law_other"] ["_law_one", "_law_other"] (defScope s_law_plus) := ⟨rfl, rfl, rfl, by decide +kernel, rfl, by decide +kernel, by decide +kernel⟩
abbrev s_law_part : Stmt := topS 42
theorem sc_law_part : FnScope ["_law_number_own"] ["_law_number_own"] (defScope s_law_part) := ⟨rfl, rfl, rfl, by decide +kernel, rfl, by decide +kernel, by decide +kernel⟩
abbrev s_law_term : Stmt := topS 43
theorem sc_law_term : FnScope ["_law_word_own", "_law_number_own", "_law_k", "_law_top", "_law_bottom", "_law_step", "_law_high", "_law_low", "_law_turn"] ["_law_word_own", "_law_number_own", "_law_k"] (defScope s_law_term) := ⟨rfl, rfl, rfl, by decide +kernel, rfl, by decide +kernel, by decide +kernel⟩
abbrev s_law_drawn : Stmt := topS 44
theorem sc_law_drawn : FnScope ["_law_pile", "_law_word_own", "_law_way", "_law_most", "_law_m", "_law_e"] ["_law_pile", "_law_word_own"] (defScope s_law_drawn) := ⟨rfl, rfl, rfl, by decide +kernel, rfl, by decide +kernel, by decide +kernel⟩
abbrev s_law_whole : Stmt := topS 45
theorem sc_law_whole : FnScope ["_law_found"] ["_law_found"] (defScope s_law_whole) := ⟨rfl, rfl, rfl, by decide +kernel, rfl, by decide +kernel, by decide +kernel⟩
abbrev s_law_good : Stmt := topS 46
theorem sc_law_good : FnScope ["_law_word_own", "_law_number_own", "_law_most", "_law_due", "_law_k", "_law_found"] ["_law_word_own", "_law_number_own", "_law_most"] (defScope s_law_good) := ⟨rfl, rfl, rfl, by decide +kernel, rfl, by decide +kernel, by decide +kernel⟩
abbrev s_law : Stmt := topS 47
theorem sc_law : FnScope ["_law_script", "_law_words", "_law_k", "_law_pile", "_law_word_own", "_law_number_own"] ["_law_script"] (defScope s_law) := ⟨rfl, rfl, rfl, by decide +kernel, rfl, by decide +kernel, by decide +kernel⟩
section
variable {P : Program} {w : World} {K : PySem.W.Frag} {mg : Str → Option Value} {base : Heap}
theorem ok_is_whole {f : Addr} {fd : FuncData} (T : Top mg) (F : FnP K "is_whole" s_is_whole f fd) : FnOk P w K mg base CX0 1 f fd ["thing"] (spWhole K) := by
  have sc := sc_is_whole
  refine ok0 F sc (fun vs H Q E h => ?_) (fun cdv A outer s H vs Q E hr h => ?_)
  · obtain ⟨v, b, rfl, _⟩ := h
    rfl
  · obtain ⟨v, b, rfl, hw, q⟩ := h
    obtain ⟨t, b1, b2, ty, k1, k2, rfl⟩ := hw.kinds
    refine ⟨_, (pss_one (ps_ret (pe_and (pe_callB call_isi (by rfl) T.isinstance (by decide +kernel) (pa_cons (pv 0) (pa_cons (pe_bltn (v := .ty "int") (by rfl) T.ty_int (by decide +kernel) rfl) pa_nil))) (pe_one (pe_not (pe_callB call_isi (by rfl) T.isinstance (by decide +kernel) (pa_cons (pv 0) (pa_cons (pe_bltn (v := .ty "bool") (by rfl) T.ty_bool (by decide +kernel) rfl) pa_nil)))))))), ?_⟩
    refine rd_isi (i := 0) rfl ty k1 ⟨b1, rfl, ?_⟩
    cases b1 with
    | true => exact iteT (rd_isi (i := 0) rfl ty k2 ⟨b2, rfl, q⟩)
    | false => exact iteF q
theorem ok_is_whole_within {f f1 : Addr} {fd fd1 : FuncData} (T : Top mg) (F : FnP K "is_whole_within" s_is_whole_within f fd) (c_is_whole : Cal P w K mg base CX0 1 "is_whole" ["thing"] (spWhole K) f1 fd1) : FnOk P w K mg base CX0 2 f fd ["thing", "least", "most"] (spWithin K) := by
  have sc := sc_is_whole_within
  refine ok0 F sc (fun vs H Q E h => ?_) (fun cdv A outer s H vs Q E hr h => ?_)
  · obtain ⟨i, l, m, rfl, _⟩ := h
    rfl
  · obtain ⟨i, l, m, rfl, q⟩ := h
    refine ⟨_, (pss_one (ps_ret (pe_and (pe_call c_is_whole.ok (hr.mono (by decide)) (by rfl) c_is_whole.m c_is_whole.kp c_is_whole.b .nil pass0 (pa_cons (pv 0) pa_nil)) (pe_one (pe_chain op_le op_le (pv 1) (pv 0) (pv 2)))))), ?_⟩
    refine ⟨.int i, rfl, .int i, true, rfl, whole_int i, true, rfl, iteT ?_⟩
    refine ⟨.int l, rfl, .int i, rfl, l, i, rfl, rfl, _, rfl, ite2 (fun h => ?_) (fun h => ?_)⟩
    · rw [h] at q
      exact ⟨.int m, rfl, i, m, rfl, rfl, q⟩
    · rw [Bool.eq_false_iff.mpr h] at q
      exact q
theorem ok_need_whole_within {f f1 : Addr} {fd fd1 : FuncData} (T : Top mg) (F : FnP K "need_whole_within" s_need_whole_within f fd) (c_is_whole_within : Cal P w K mg base CX0 2 "is_whole_within" ["thing", "least", "most"] (spWithin K) f1 fd1) : FnOk P w K mg base CX0 3 f fd ["thing", "least", "most"] (spNeedW K) := by
  have sc := sc_need_whole_within
  refine ok0 F sc (fun vs H Q E h => ?_) (fun cdv A outer s H vs Q E hr h => ?_)
  · obtain ⟨i, l, m, rfl, _⟩ := h
    rfl
  · obtain ⟨i, l, m, rfl, h1, h2, q⟩ := h
    refine ⟨_, (pss_one (ps_if (pt_not (pt_val (pe_call c_is_whole_within.ok (hr.mono (by decide)) (by rfl) c_is_whole_within.m c_is_whole_within.kp c_is_whole_within.b .nil pass0 (pa_cons (pv 0) (pa_cons (pv 1) (pa_cons (pv 2) pa_nil))))))
      (pss_one ps_never) pss_nil)), ?_⟩
    refine ⟨.int i, rfl, .int l, rfl, .int m, rfl, i, l, m, rfl, _, rfl, ?_⟩
    rw [decide_eq_true h1, decide_eq_true h2]
    exact iteF q
theorem ok_is_number {f : Addr} {fd : FuncData} (T : Top mg) (F : FnP K "is_number" s_is_number f fd) : FnOk P w K mg base CX0 1 f fd ["thing"] (spNum K) := by
  have sc := sc_is_number
  refine ok0 F sc (fun vs H Q E h => ?_) (fun cdv A outer s H vs Q E hr h => ?_)
  · obtain ⟨v, b, rfl, _⟩ := h
    rfl
  · obtain ⟨v, b, rfl, hn, q0⟩ := h
    have q := q0 H (Ex.refl H)
    refine ⟨_, (pss_cons (ps_if (PW.pt (pw_or (pt_not (pt_val (pe_callB call_isi (by rfl) T.isinstance (by decide +kernel) (pa_cons (pv 0) (pa_cons (pe_bltn (v := .ty "tuple") (by rfl) T.ty_tuple (by decide +kernel) rfl) pa_nil))))) (pw_or1 (pt_cmpR op_ne (pe_callB call_len (by rfl) T.len (by decide +kernel) (pa_cons (pv 0) pa_nil)) pe_int (nomark _)))))
      (pss_one (ps_ret pe_bl)) pss_nil)
    (pss_cons (ps_asg (pv 0) (pg_tup rfl (pgs_cons (pg_name (i := 1) sc.nd rfl (.inl rfl)) (pgs_cons (pg_name (i := 2) sc.nd rfl (.inl rfl)) pgs_nil))))
    (pss_cons (ps_if (PW.pt (pw_or (pt_not (pt_val (pe_callB call_isi (by rfl) T.isinstance (by decide +kernel) (pa_cons (pv 1) (pa_cons (pe_bltn (v := .ty "int") (by rfl) T.ty_int (by decide +kernel) rfl) pa_nil))))) (pw_or (pt_not (pt_val (pe_callB call_isi (by rfl) T.isinstance (by decide +kernel) (pa_cons (pv 2) (pa_cons (pe_bltn (v := .ty "int") (by rfl) T.ty_int (by decide +kernel) rfl) pa_nil))))) (pw_or (pt_cmpR op_isT (pv 2) pe_bl (nomark _)) (pw_or1 (pt_cmpR op_isT (pv 2) pe_bl (nomark _)))))))
      (pss_one (ps_ret pe_bl)) pss_nil)
    (pss_cons (ps_if (pt_truth (pe_op op_and1 (pv 1) pe_int) (fun _ => rfl))
      (pss_one (ps_ret (pe_cmpR op_notT (pv 1) pe_bl (nomark _)))) pss_nil)
    (pss_one (ps_ret (pe_and (pe_cmpR (op_eqD hr.units) (pv 1) pe_int (nomark _)) (pe_and (pe_cmpR op_eq (pv 2) pe_int (nomark _)) (pe_one (pe_cmpR op_notT (pv 1) pe_bl (nomark _))))))))))), ?_⟩
    cases hn with
    | no ty k => exact rd_isi (i := 0) rfl ty k ⟨false, rfl, iteT (iteT q)⟩
    | @len a xs h l =>
      refine rd_tup (i := 0) rfl h ⟨true, rfl, iteF ?_⟩
      refine ⟨.ref a, rfl, .ref a, xs.length, rfl, .inr ⟨xs, h, rfl⟩, rfl, _, rfl, ite2 (fun _ => q) (fun hh => absurd ?_ hh)⟩
      have e : ¬ V.int ((xs.length : Nat) : Int) = V.int 2 := fun z => l (by have := V.int.inj z; omega)
      rw [decide_eq_false e]
      rfl
    | @fst a x y b h p1 p2 =>
      refine rd_tup (i := 0) rfl h ⟨true, rfl, iteF ?_⟩
      refine ⟨.ref a, rfl, .ref a, 2, rfl, .inr ⟨[x, y], h, rfl⟩, rfl, _, rfl, iteNS rfl ?_⟩
      refine ⟨.ref a, rfl, a, [x, y], rfl, h, rfl, x, [y], rfl, y, [], rfl, rfl, ?_⟩
      cases p1 with
      | no h1 k1 k2 => exact rd_isi (i := 1) (v := x) rfl h1 k1 ⟨false, rfl, iteT (iteT q)⟩
      | bl c =>
        refine rd_isi (i := 1) (v := .bl c) rfl (ty_bl c) kit_bi ⟨true, rfl, iteF ?_⟩
        cases p2 with
        | no h1 k1 k2 => exact rd_isi (i := 2) (v := y) rfl h1 k1 ⟨false, rfl, iteT (iteT q)⟩
        | bl d =>
          refine rd_isi (i := 2) (v := .bl d) rfl (ty_bl d) kit_bi ⟨true, rfl, iteF ?_⟩
          cases d with
          | true => exact ⟨.bl true, rfl, true, rfl, rfl, _, rfl, iteT (iteT q)⟩
          | false => exact ⟨.bl false, rfl, true, rfl, rfl, _, rfl, iteF ⟨.bl false, rfl, false, rfl, rfl, _, rfl, iteT q⟩⟩
        | int e =>
          refine rd_isi (i := 2) (v := .int e) rfl (ty_int e) kit_ii ⟨true, rfl, iteF ?_⟩
          refine ⟨.int e, rfl, true, rfl, rfl, _, rfl, iteF ⟨.int e, rfl, false, rfl, rfl, _, rfl, iteF ?_⟩⟩
          cases c with
          | true => exact ⟨.bl true, rfl, rfl, .inr ⟨true, rfl, true, rfl, iteT ⟨.bl true, rfl, true, rfl, rfl, q⟩⟩⟩
          | false => 
            refine ⟨.bl false, rfl, rfl, .inr ⟨false, rfl, false, rfl, iteF ?_⟩⟩
            refine ⟨.bl false, rfl, .bool false, .int 0, .bl false, .int 0, rfl, rfl, true, by decide +kernel, iteT ?_⟩
            refine ⟨.int e, rfl, rfl, _, rfl, ite2 (fun _ => ?_) (fun h2 => ?_)⟩
            · exact ⟨.bl false, rfl, false, rfl, rfl, q⟩
            · exact q
    | @snd a x y h p1 p2 =>
      refine rd_tup (i := 0) rfl h ⟨true, rfl, iteF ?_⟩
      refine ⟨.ref a, rfl, .ref a, 2, rfl, .inr ⟨[x, y], h, rfl⟩, rfl, _, rfl, iteNS rfl ?_⟩
      refine ⟨.ref a, rfl, a, [x, y], rfl, h, rfl, x, [y], rfl, y, [], rfl, rfl, ?_⟩
      cases p1 with
      | int m =>
        refine rd_isi (i := 1) (v := .int m) rfl (ty_int m) kit_ii ⟨true, rfl, iteF ?_⟩
        cases p2 with
        | no h1 k1 k2 => exact rd_isi (i := 2) (v := y) rfl h1 k1 ⟨false, rfl, iteT (iteT q)⟩
        | bl d =>
          refine rd_isi (i := 2) (v := .bl d) rfl (ty_bl d) kit_bi ⟨true, rfl, iteF ?_⟩
          cases d with
          | true => exact ⟨.bl true, rfl, true, rfl, rfl, _, rfl, iteT (iteT q)⟩
          | false => exact ⟨.bl false, rfl, true, rfl, rfl, _, rfl, iteF ⟨.bl false, rfl, false, rfl, rfl, _, rfl, iteT q⟩⟩
    | @num a m e h =>
      refine rd_tup (i := 0) rfl h ⟨true, rfl, iteF ?_⟩
      refine ⟨.ref a, rfl, .ref a, 2, rfl, .inr ⟨[.int m, .int e], h, rfl⟩, rfl, _, rfl, iteNS rfl ?_⟩
      refine ⟨.ref a, rfl, a, [.int m, .int e], rfl, h, rfl, .int m, [.int e], rfl, .int e, [], rfl, rfl, ?_⟩
      refine rd_isi (i := 1) (v := .int m) rfl (ty_int m) kit_ii ⟨true, rfl, iteF ?_⟩
      refine rd_isi (i := 2) (v := .int e) rfl (ty_int e) kit_ii ⟨true, rfl, iteF ?_⟩
      refine ⟨.int e, rfl, true, rfl, rfl, _, rfl, iteF ⟨.int e, rfl, false, rfl, rfl, _, rfl, iteF ?_⟩⟩
      refine ⟨.int m, rfl, rfl, .inl ⟨m, rfl, _, rfl, ite2 (fun h1 => ?_) (fun h1 => ?_)⟩⟩
      · have e1 : m % 2 = 1 := by
          have : m % 2 ≠ 0 := by simpa using h1
          omega
        have e2 : isNumB m e = true := by
          unfold isNumB
          rw [decide_eq_true e1]
          rfl
        rw [e2] at q
        exact ⟨.int m, rfl, true, rfl, rfl, q⟩
      · have e1 : ¬ m % 2 = 1 := fun z => h1 (by rw [z]; rfl)
        have e2 : isNumB m e = (decide (m = 0) && decide (e = 0)) := by
          unfold isNumB
          rw [decide_eq_false e1]
          rfl
        rw [e2] at q
        refine ⟨.int m, rfl, .int m, .int 0, .int m, .int 0, rfl, rfl, decide (m = 0), by simp [PyData.eqv]; rfl, ite2 (fun h2 => ?_) (fun h2 => ?_)⟩
        · rw [h2] at q
          refine ⟨.int e, rfl, rfl, _, rfl, ite2 (fun h3 => ?_) (fun h3 => ?_)⟩
          · have e4 : e = 0 := V.int.inj (of_decide_eq_true h3)
            rw [decide_eq_true e4] at q
            exact ⟨.int m, rfl, false, rfl, rfl, q⟩
          · have e4 : ¬ e = 0 := fun z => h3 (decide_eq_true (congrArg V.int z))
            rw [decide_eq_false e4] at q
            exact q
        · rw [Bool.eq_false_iff.mpr h2] at q
          exact q
theorem ok_need_number {f f1 : Addr} {fd fd1 : FuncData} (T : Top mg) (F : FnP K "need_number" s_need_number f fd) (c_is_number : Cal P w K mg base CX0 1 "is_number" ["thing"] (spNum K) f1 fd1) : FnOk P w K mg base CX0 2 f fd ["thing"] (spNeed K) := by
  have sc := sc_need_number
  refine ok0 F sc (fun vs H Q E h => ?_) (fun cdv A outer s H vs Q E hr h => ?_)
  · obtain ⟨v, rfl, _⟩ := h
    rfl
  · obtain ⟨v, rfl, hn, q⟩ := h
    refine ⟨_, (pss_one (ps_if (pt_not (pt_val (pe_call c_is_number.ok (hr.mono (by decide)) (by rfl) c_is_number.m c_is_number.kp c_is_number.b .nil pass0 (pa_cons (pv 0) pa_nil))))
      (pss_one ps_never) pss_nil)), ?_⟩
    exact ⟨v, rfl, v, true, rfl, hn, fun H' e => ⟨true, rfl, iteF (q H' e)⟩⟩
theorem pord_plain {a b : Int × Int} (h : a.2 = b.2 ∨ a.1 = 0 ∨ b.1 = 0 ∨ decide (0 < a.1) ≠ decide (0 < b.1)) : pord a b = sgn (a.1 - b.1) := by
  have ea : min a.2 b.2 ≤ a.2 := by omega
  have eb : min a.2 b.2 ≤ b.2 := by omega
  rcases h with h | h | h | h
  · rw [pord_at (E := a.2) (by omega) (by omega)]
    unfold at_
    rw [show (a.2 - a.2).toNat = 0 by omega, show (b.2 - a.2).toNat = 0 by omega, Int.pow_zero, Int.mul_one, Int.mul_one]
  · rw [pord_at ea eb]
    generalize min a.2 b.2 = E at *
    have e1 : at_ a E = 0 := by
      unfold at_
      rw [h, Int.zero_mul]
    rw [e1, h, Int.zero_sub, Int.zero_sub, sgn_swap, sgn_swap, at_sgn]
  · rw [pord_at ea eb]
    generalize min a.2 b.2 = E at *
    have e1 : at_ b E = 0 := by
      unfold at_
      rw [h, Int.zero_mul]
    rw [e1, h, Int.sub_zero, Int.sub_zero, at_sgn]
  · rw [pord_at ea eb]
    generalize min a.2 b.2 = E at *
    have sa := at_sgn a E
    have sb := at_sgn b E
    by_cases p : 0 < a.1
    · have p2 : ¬ 0 < b.1 := fun z => h (by rw [decide_eq_true p, decide_eq_true z])
      rw [sgn_pos p] at sa
      have pa := sgn_of_pos sa
      rw [sgn_pos (show 0 < a.1 - b.1 by omega)]
      refine sgn_pos ?_
      rcases Int.lt_trichotomy b.1 0 with z | z | z
      · rw [sgn_neg z] at sb
        have := sgn_of_neg sb
        omega
      · rw [z] at sb
        have := sgn_of_zero sb
        omega
      · exact absurd z p2
    · have p2 : 0 < b.1 := by
        rcases Int.lt_trichotomy b.1 0 with z | z | z
        · exact absurd (by rw [decide_eq_false p, decide_eq_false (by omega)]) h
        · exact absurd (by rw [decide_eq_false p, decide_eq_false (by omega)]) h
        · exact z
      rw [sgn_pos p2] at sb
      have pb := sgn_of_pos sb
      rw [sgn_neg (show a.1 - b.1 < 0 by omega)]
      refine sgn_neg ?_
      rcases Int.lt_trichotomy a.1 0 with z | z | z
      · rw [sgn_neg z] at sa
        have := sgn_of_neg sa
        omega
      · rw [z] at sa
        have := sgn_of_zero sa
        omega
      · exact absurd z p
/-- of one sign, by their sizes -/
theorem pord_size {a b : Int × Int} (ha : a.1 ≠ 0) (hb : b.1 ≠ 0) (h : decide (0 < a.1) = decide (0 < b.1)) (hs : psize a ≠ psize b) : pord a b = if decide (psize b < psize a) = decide (0 < a.1) then 1 else -1 := by
  have hE : ∀ x y : Int × Int, (prank y).1 = (prank x).1 → (prank y).2 < (prank x).2 → pord x y = 1 := fun x y e l => rank_gt (.inr ⟨e, l⟩)
  by_cases p : 0 < a.1
  · have p2 : 0 < b.1 := of_decide_eq_true (h ▸ decide_eq_true p)
    have ra : prank a = (1, 1 * psize a) := by unfold prank; rw [sgn_pos p]
    have rb : prank b = (1, 1 * psize b) := by unfold prank; rw [sgn_pos p2]
    by_cases q : psize b < psize a
    · rw [decide_eq_true p, decide_eq_true q, if_pos rfl]
      exact hE a b (by rw [ra, rb]) (by rw [ra, rb]; show 1 * psize b < 1 * psize a; omega)
    · rw [decide_eq_true p, decide_eq_false q, if_neg (by decide), pord_swap b a, hE b a (by rw [ra, rb]) (by rw [ra, rb]; show 1 * psize a < 1 * psize b; omega)]
  · have p1 : a.1 < 0 := by omega
    have p2 : b.1 < 0 := by
      have : ¬ 0 < b.1 := fun z => p (of_decide_eq_true (h.trans (decide_eq_true z)))
      omega
    have ra : prank a = (-1, -1 * psize a) := by unfold prank; rw [sgn_neg p1]
    have rb : prank b = (-1, -1 * psize b) := by unfold prank; rw [sgn_neg p2]
    by_cases q : psize b < psize a
    · rw [decide_eq_false p, decide_eq_true q, if_neg (by decide), pord_swap b a, hE b a (by rw [ra, rb]) (by rw [ra, rb]; show -1 * psize a < -1 * psize b; omega)]
    · rw [decide_eq_false p, decide_eq_false q, if_pos rfl]
      exact hE a b (by rw [ra, rb]) (by rw [ra, rb]; show -1 * psize b < -1 * psize a; omega)
theorem sgn_if (x y : Int) : sgn (x - y) = if x = y then 0 else if y < x then 1 else -1 := by
  by_cases h : x = y
  · rw [if_pos h, h, Int.sub_self]
    rfl
  · rw [if_neg h]
    by_cases l : y < x
    · rw [if_pos l, sgn_pos (by omega)]
    · rw [if_neg l, sgn_neg (by omega)]
theorem ok_compared {f : Addr} {fd : FuncData} (T : Top mg) (F : FnP K "compared" s_compared f fd) : FnOk P w K mg base CX0 1 f fd ["one", "other"] (spOrd K) := by
  have sc := sc_compared
  refine ok0 F sc (fun vs H Q E h => ?_) (fun cdv A outer s H vs Q E hr h => ?_)
  · obtain ⟨u, v, a, b, rfl, _⟩ := h
    rfl
  · obtain ⟨u, v, a, b, rfl, ga, gb, q⟩ := h
    have q := q H (Ex.refl H)
    refine ⟨_, (pss_cons (ps_asg (pv 0) (pg_tup rfl (pgs_cons (pg_name (i := 2) sc.nd rfl (.inl rfl)) (pgs_cons (pg_name (i := 3) sc.nd rfl (.inl rfl)) pgs_nil))))
    (pss_cons (ps_asg (pv 1) (pg_tup rfl (pgs_cons (pg_name (i := 4) sc.nd rfl (.inl rfl)) (pgs_cons (pg_name (i := 5) sc.nd rfl (.inl rfl)) pgs_nil))))
    (pss_cut (ps_if (PW.pt (pw_and (pt_cmpR op_ne (pv 3) (pv 5) (nomark _)) (pw_and (pt_truth (pv 2) (fun _ => rfl)) (pw_and (pt_truth (pv 4) (fun _ => rfl)) (pw_and1 (pt_cmpR op_eq (pe_cmpR op_gt (pv 2) pe_int (nomark _)) (pe_cmpR op_gt (pv 4) pe_int (nomark _)) (nomark _)))))))
      (pss_cons (ps_par (by rfl) sc.nd (i := 6) (j := 7) rfl rfl (by decide) rfl rfl (pa_cons (pe_op op_add (pe_bits (pv 2)) (pv 3)) (pa_cons (pe_op op_add (pe_bits (pv 4)) (pv 5)) pa_nil)) (by rfl))
      (pss_cons (ps_if (pt_cmpR op_ne (pv 6) (pv 7) (nomark _))
        (pss_one (ps_ret (pe_ifExp (pt_cmpR op_eq (pe_cmpR op_gt (pv 6) (pv 7) (nomark _)) (pe_cmpR op_gt (pv 2) pe_int (nomark _)) (nomark _)) pe_int (pe_un un_neg pe_int)))) pss_nil)
      (pss_one (ps_if (pt_cmpR op_gt (pv 3) (pv 5) (nomark _))
        (pss_one (ps_aug (i := 2) sc.nd rfl (.inl rfl) (pe_op op_sub (pv 3) (pv 5)) iop_shlW)) (pss_one (ps_aug (i := 4) sc.nd rfl (.inl rfl) (pe_op op_sub (pv 5) (pv 3)) iop_shlW)))))) pss_nil)
    (pss_cons (ps_if (pt_cmpR op_eq (pv 2) (pv 4) (nomark _))
      (pss_one (ps_ret pe_int)) pss_nil)
    (pss_one (ps_ret (pe_ifExp (pt_cmpR op_gt (pv 2) (pv 4) (nomark _)) pe_int (pe_un un_neg pe_int)))))))), ?_⟩
    obtain ⟨p, rfl, hp⟩ := ga.at_
    obtain ⟨r, rfl, hr2⟩ := gb.at_
    have ba := ga.bd
    have bb := gb.bd
    have ba2 := ba.2
    have bb2 := bb.2
    refine ⟨.ref p, rfl, p, [.int a.1, .int a.2], rfl, hp, rfl, .int a.1, [.int a.2], rfl, .int a.2, [], rfl, rfl, ?_⟩
    refine ⟨.ref r, rfl, r, [.int b.1, .int b.2], rfl, hr2, rfl, .int b.1, [.int b.2], rfl, .int b.2, [], rfl, rfl, ?_⟩
    refine ⟨fun σ' H' => H' = H ∧ ∃ (x y : Int) (t u : Option V), σ' = [some (.ref p), some (.ref r), some (.int x), some (.int a.2), some (.int y), some (.int b.2), t, u] ∧ sgn (x - y) = pord a b, ?_, fun σ' H' hm => ?_⟩
    · refine ⟨.int a.2, rfl, .int b.2, rfl, rfl, _, rfl, ite2 (fun h1 => ?_) (fun h1 => ?_)⟩
      · have n1 : a.2 ≠ b.2 := fun z => by
          rw [decide_eq_true (congrArg V.int z)] at h1
          cases h1
        refine ⟨.int a.1, rfl, _, rfl, ite2 (fun h2 => ?_) (fun h2 => ?_)⟩
        · have n2 : a.1 ≠ 0 := by simpa using h2
          refine ⟨.int b.1, rfl, _, rfl, ite2 (fun h3 => ?_) (fun h3 => ?_)⟩
          · have n3 : b.1 ≠ 0 := by simpa using h3
            refine ⟨.int a.1, rfl, a.1, 0, rfl, rfl, .int b.1, rfl, b.1, 0, rfl, rfl, rfl, _, rfl, ite2 (fun h4 => ?_) (fun h4 => ?_)⟩
            · have e4 : decide (0 < a.1) = decide (0 < b.1) := V.bl.inj (of_decide_eq_true h4)
              have pa : ((Builtin.Int.intBits a.1 : Nat) : Int) + a.2 = psize a + 1 := by unfold psize; omega
              have pb : ((Builtin.Int.intBits b.1 : Nat) : Int) + b.2 = psize b + 1 := by unfold psize; omega
              refine ⟨.int a.1, rfl, a.1, rfl, .int a.2, rfl, _, _, rfl, rfl, .int b.1, rfl, b.1, rfl, .int b.2, rfl, _, _, rfl, rfl, .int (psize a + 1), .int (psize b + 1), by rw [← pa, ← pb], ?_⟩
              refine ⟨.int (psize a + 1), rfl, .int (psize b + 1), rfl, rfl, _, rfl, ite2 (fun h5 => ?_) (fun h5 => ?_)⟩
              · have n5 : psize a ≠ psize b := fun z => by
                  rw [decide_eq_true (show V.int (psize a + 1) = V.int (psize b + 1) by rw [z])] at h5
                  cases h5
                rw [pord_size n2 n3 e4 n5] at q
                refine ⟨.int (psize a + 1), rfl, .int (psize b + 1), rfl, _, _, rfl, rfl, .int a.1, rfl, a.1, 0, rfl, rfl, rfl, _, rfl, ?_⟩
                have e6 : decide (psize b + 1 < psize a + 1) = decide (psize b < psize a) := decide_eq_decide.mpr ⟨fun z => by omega, fun z => by omega⟩
                refine ite2 (fun h6 => ?_) (fun h6 => ?_)
                · have e7 := V.bl.inj (of_decide_eq_true h6)
                  rw [e6] at e7
                  rw [if_pos e7] at q
                  exact q
                · have e7 : ¬ decide (psize b < psize a) = decide (0 < a.1) := fun z => h6 (decide_eq_true (by show V.bl (decide (psize b + 1 < psize a + 1)) = V.bl (decide (0 < a.1)); rw [e6, z]))
                  rw [if_neg e7] at q
                  exact ⟨1, rfl, q⟩
              · refine ⟨.int a.2, rfl, .int b.2, rfl, a.2, b.2, rfl, rfl, _, rfl, ite2 (fun h6 => ?_) (fun h6 => ?_)⟩
                · have l6 : b.2 < a.2 := of_decide_eq_true h6
                  refine ⟨.int a.1, rfl, .int a.2, rfl, .int b.2, rfl, a.2, b.2, rfl, rfl, a.1, _, rfl, rfl, ?_, rfl, _, _, _, _, rfl, ?_⟩
                  · have hs : a.2 - b.2 = ((a.2 - b.2).toNat : Int) := by omega
                    show CShl a.1 (a.2 - b.2)
                    rw [hs]
                    exact shl_ok ba.1 (by unfold LIM at *; omega)
                  · rw [pord_at (E := b.2) (by omega) (by omega)]
                    unfold at_
                    rw [show (b.2 - b.2).toNat = 0 by omega, Int.pow_zero, Int.mul_one]
                · have l6 : a.2 < b.2 := by
                    have : ¬ b.2 < a.2 := fun z => h6 (decide_eq_true z)
                    omega
                  refine ⟨.int b.1, rfl, .int b.2, rfl, .int a.2, rfl, b.2, a.2, rfl, rfl, b.1, _, rfl, rfl, ?_, rfl, _, _, _, _, rfl, ?_⟩
                  · have hs : b.2 - a.2 = ((b.2 - a.2).toNat : Int) := by omega
                    show CShl b.1 (b.2 - a.2)
                    rw [hs]
                    exact shl_ok bb.1 (by unfold LIM at *; omega)
                  · rw [pord_at (E := a.2) (by omega) (by omega)]
                    unfold at_
                    rw [show (a.2 - a.2).toNat = 0 by omega, Int.pow_zero, Int.mul_one]
            · refine ⟨rfl, a.1, b.1, _, _, rfl, (pord_plain (.inr (.inr (.inr fun z => h4 (decide_eq_true (congrArg V.bl z)))))).symm⟩
          · have e3 : b.1 = 0 := by simpa using h3
            exact iteF ⟨rfl, a.1, b.1, _, _, rfl, (pord_plain (.inr (.inr (.inl e3)))).symm⟩
        · have e2 : a.1 = 0 := by simpa using h2
          exact iteF ⟨rfl, a.1, b.1, _, _, rfl, (pord_plain (.inr (.inl e2))).symm⟩
      · have e1 : a.2 = b.2 := by
          by_cases z : a.2 = b.2
          · exact z
          · exact absurd (by rw [decide_eq_false (fun y => z (V.int.inj y))]; rfl) h1
        exact iteF ⟨rfl, a.1, b.1, _, _, rfl, (pord_plain (.inl e1)).symm⟩
    · obtain ⟨rfl, x, y, t, u, rfl, e⟩ := hm
      rw [← e, sgn_if] at q
      refine ⟨.int x, rfl, .int y, rfl, rfl, _, rfl, ite2 (fun h1 => ?_) (fun h1 => ?_)⟩
      · rw [if_pos (V.int.inj (of_decide_eq_true h1))] at q
        exact q
      · rw [if_neg (fun z => h1 (decide_eq_true (congrArg V.int z)))] at q
        refine ⟨.int x, rfl, .int y, rfl, x, y, rfl, rfl, _, rfl, ite2 (fun h2 => ?_) (fun h2 => ?_)⟩
        · rw [if_pos (of_decide_eq_true h2)] at q
          exact q
        · rw [if_neg (fun z => h2 (decide_eq_true z))] at q
          exact ⟨1, rfl, q⟩
theorem ok_size_of {f : Addr} {fd : FuncData} (T : Top mg) (F : FnP K "size_of" s_size_of f fd) : FnOk P w K mg base CX0 1 f fd ["number"] (spSize K) := by
  have sc := sc_size_of
  refine ok0 F sc (fun vs H Q E h => ?_) (fun cdv A outer s H vs Q E hr h => ?_)
  · obtain ⟨v, n, rfl, _⟩ := h
    rfl
  · obtain ⟨v, n, rfl, ⟨a, rfl, ha⟩, q⟩ := h
    refine ⟨_, (pss_one (ps_ret (pe_op op_add (pe_op op_sub (pe_bits (pe_ix ix_tup (pv 0) pe_int (fun _ _ => rfl))) pe_int) (pe_ix ix_tup (pv 0) pe_int (fun _ _ => rfl))))), ?_⟩
    exact ⟨.ref a, rfl, a, [.int n.1, .int n.2], 0, .int n.1, rfl, rfl, ha, rfl, n.1, rfl, _, 1, rfl, rfl, .ref a, rfl, a, [.int n.1, .int n.2], 1, .int n.2, rfl, rfl, ha, rfl, _, _, rfl, rfl, q⟩
theorem ok_need_word {f : Addr} {fd : FuncData} (T : Top mg) (F : FnP K "need_word" s_need_word f fd) : FnOk P w K mg base CX0 1 f fd ["thing", "words"] (spNeedW5 K) := by
  have sc := sc_need_word
  refine ok0 F sc (fun vs H Q E h => ?_) (fun cdv A outer s H vs Q E hr h => ?_)
  · obtain ⟨w, a, rfl, _⟩ := h
    rfl
  · obtain ⟨w, a, rfl, hS, q⟩ := h
    refine ⟨_, (pss_one (ps_if (pt_cmpR op_notIn_seq (pv 0) (pv 1) (by with_unfolding_all rfl))
      (pss_one ps_never) pss_nil)), ?_⟩
    refine ⟨.str w.s, rfl, .ref a, rfl, a, _, rfl, .inr hS, rfl, by decide +kernel, ?_⟩
    rw [in_ser]
    exact ⟨false, rfl, iteF q⟩
theorem ok_is_between {f f1 : Addr} {fd fd1 : FuncData} (T : Top mg) (F : FnP K "is_between" s_is_between f fd) (c_compared : Cal P w K mg base CX0 1 "compared" ["one", "other"] (spOrd K) f1 fd1) : FnOk P w K mg base CX0 2 f fd ["number", "least", "most"] (spBetw K) := by
  have sc := sc_is_between
  refine ok0 F sc (fun vs H Q E h => ?_) (fun cdv A outer s H vs Q E hr h => ?_)
  · obtain ⟨u, v, z, n, a, b, rfl, _⟩ := h
    rfl
  · obtain ⟨u, v, z, n, a, b, rfl, gu, gv, gz, q⟩ := h
    refine ⟨_, (pss_one (ps_ret (pe_and (pe_cmpR op_le (pe_call c_compared.ok (hr.mono (by decide)) (by rfl) c_compared.m c_compared.kp c_compared.b .nil pass0 (pa_cons (pv 1) (pa_cons (pv 0) pa_nil))) pe_int (nomark _)) (pe_one (pe_cmpR op_le (pe_call c_compared.ok (hr.mono (by decide)) (by rfl) c_compared.m c_compared.kp c_compared.b .nil pass0 (pa_cons (pv 0) (pa_cons (pv 2) pa_nil))) pe_int (nomark _)))))), ?_⟩
    refine o_ret ((ev_andV (ev_op (ev_ord (evn_var (i := 1) rfl gv) (evn_var (i := 0) rfl gu) (by decide)) ev_c rv_I0) (fun _ => ev_op (ev_ord (evn_var (i := 0) rfl gu) (evn_var (i := 2) rfl gz) (by decide)) ev_c rv_I0)) H (Ex.refl H) _ fun H2 e2 => q H2 e2)
theorem ok_is_place {f f1 f2 : Addr} {fd fd1 fd2 : FuncData} {tM : Tok} (T : Top mg) (m_MOST_SIZE : mg "MOST_SIZE" = some (.int 800 tM)) (F : FnP K "is_place" s_is_place f fd) (c_is_between : Cal P w K mg base CX0 2 "is_between" ["number", "least", "most"] (spBetw K) f1 fd1) (c_size_of : Cal P w K mg base CX0 1 "size_of" ["number"] (spSize K) f2 fd2) : FnOk P w K mg base CX0 3 f fd ["word", "number"] (spIsPl K) := by
  have sc := sc_is_place
  refine ok0 F sc (fun vs H Q E h => ?_) (fun cdv A outer s H vs Q E hr h => ?_)
  · obtain ⟨w, v, n, rfl, _⟩ := h
    rfl
  · obtain ⟨w, v, n, rfl, gv, ⟨p1, p2, p3, p4⟩, q⟩ := h
    refine ⟨_, (pss_cons (ps_if (pt_cmpR op_eq (pv 0) pe_str (nomark _))
      (pss_one (ps_ret (pe_cmpR op_ge (pe_ix ix_tup (pv 1) pe_int (fun _ _ => rfl)) pe_int (nomark _)))) pss_nil)
    (pss_cons (ps_if (pt_cmpR op_eq (pv 0) pe_str (nomark _))
      (pss_one (ps_ret (pe_cmpR op_gt (pe_ix ix_tup (pv 1) pe_int (fun _ _ => rfl)) pe_int (nomark _)))) pss_nil)
    (pss_cons (ps_if (pt_cmpR op_eq (pv 0) pe_str (nomark _))
      (pss_one (ps_ret (pe_call c_is_between.ok (hr.mono (by decide)) (by rfl) c_is_between.m c_is_between.kp c_is_between.b .nil pass0 (pa_cons (pv 1) (pa_cons (pe_tup (pa_cons (pe_un un_neg pe_int) (pa_cons pe_int pa_nil))) (pa_cons (pe_tup (pa_cons pe_int (pa_cons pe_int pa_nil))) pa_nil)))))) pss_nil)
    (pss_one (ps_ret (pe_or (pe_cmpR op_eq (pe_ix ix_tup (pv 1) pe_int (fun _ _ => rfl)) pe_int (nomark _)) (pe_one (pe_cmpR op_lt (pe_call c_size_of.ok (hr.mono (by decide)) (by rfl) c_size_of.m c_size_of.kp c_size_of.b .nil pass0 (pa_cons (pv 1) pa_nil)) (pe_glob (v := .int 800) (by rfl) m_MOST_SIZE ⟨_, rfl⟩) (nomark _))))))))), ?_⟩
    obtain ⟨r, rfl, hr1⟩ := gv.at_
    refine ⟨.str w, rfl, rfl, _, rfl, ite2 (fun h1 => ?_) (fun h1 => ?_)⟩
    · have e1 := p1 (V.str.inj (of_decide_eq_true h1))
      have q := q H (Ex.refl H)
      refine ⟨.ref r, rfl, r, [.int n.1, .int n.2], 0, .int n.1, rfl, rfl, hr1, rfl, n.1, 0, rfl, rfl, ?_⟩
      show Q (.bl (decide (0 ≤ n.1))) H
      rw [decide_eq_true e1]
      exact q
    have n1 : w ≠ "root" := fun z => h1 (decide_eq_true (congrArg V.str z))
    refine ⟨.str w, rfl, rfl, _, rfl, ite2 (fun h2 => ?_) (fun h2 => ?_)⟩
    · have e1 := p2 (V.str.inj (of_decide_eq_true h2))
      have q := q H (Ex.refl H)
      refine ⟨.ref r, rfl, r, [.int n.1, .int n.2], 0, .int n.1, rfl, rfl, hr1, rfl, n.1, 0, rfl, rfl, ?_⟩
      show Q (.bl (decide (0 < n.1))) H
      rw [decide_eq_true e1]
      exact q
    have n2 : w ≠ "log" := fun z => h2 (decide_eq_true (congrArg V.str z))
    refine ⟨.str w, rfl, rfl, _, rfl, ite2 (fun h3 => ?_) (fun h3 => ?_)⟩
    · obtain ⟨e1, e2⟩ := p3 (V.str.inj (of_decide_eq_true h3))
      refine ⟨.ref r, rfl, (evn_lit (K := K) (B := 3000) (m := -125) (e := 3) (σ := [some (.str w), some (.ref r)]) (H := H) (ev_un ev_c ru_neg) ev_c (by decide) ⟨by decide +kernel, by decide⟩) H (Ex.refl H) _ fun v1 H1 x1 g1 => ?_⟩
      refine (evn_lit (K := K) (B := 3000) (m := 125) (e := 3) (σ := [some (.str w), some (.ref r)]) (H := H1) ev_c ev_c (by decide) ⟨by decide +kernel, by decide⟩) H1 (Ex.refl H1) _ fun v2 H2 x2 g2 => ?_
      refine ⟨.ref r, v1, v2, n, (-125, 3), (125, 3), rfl, (gv.ex x1).ex x2, g1.ex x2, g2, fun H3 x3 => ?_⟩
      rw [decide_eq_true e1, decide_eq_true e2]
      exact q H3 ((x1.trans x2).trans x3)
    have n3 : w ≠ "exp" := fun z => h3 (decide_eq_true (congrArg V.str z))
    have q := q H (Ex.refl H)
    refine ⟨.ref r, rfl, r, [.int n.1, .int n.2], 0, .int n.1, rfl, rfl, hr1, rfl, rfl, _, rfl, ite2 (fun _ => q) (fun h4 => ?_)⟩
    have n4 : n.1 ≠ 0 := fun z => h4 (decide_eq_true (congrArg V.int z))
    have e4 : psize n < 800 := by rcases p4 n1 n2 n3 with z | z; (exact absurd z n4); (exact z)
    refine ⟨.ref r, rfl, .ref r, n, rfl, ⟨r, rfl, hr1⟩, _, 800, rfl, rfl, ?_⟩
    show Q (.bl (decide (psize n < 800))) H
    rw [decide_eq_true e4]
    exact q
theorem ok_need_place {f f1 : Addr} {fd fd1 : FuncData} (T : Top mg) (F : FnP K "need_place" s_need_place f fd) (c_is_place : Cal P w K mg base CX0 3 "is_place" ["word", "number"] (spIsPl K) f1 fd1) : FnOk P w K mg base CX0 4 f fd ["word", "number"] (spNeedPl K) := by
  have sc := sc_need_place
  refine ok0 F sc (fun vs H Q E h => ?_) (fun cdv A outer s H vs Q E hr h => ?_)
  · obtain ⟨w, v, n, rfl, _⟩ := h
    rfl
  · obtain ⟨w, v, n, rfl, gv, hp, q⟩ := h
    refine ⟨_, (pss_one (ps_if (pt_not (pt_val (pe_call c_is_place.ok (hr.mono (by decide)) (by rfl) c_is_place.m c_is_place.kp c_is_place.b .nil pass0 (pa_cons (pv 0) (pa_cons (pv 1) pa_nil)))))
      (pss_one ps_never) pss_nil)), ?_⟩
    exact ⟨.str w, rfl, v, rfl, w, v, n, rfl, gv, hp, fun H1 e1 => ⟨true, rfl, iteF (q H1 e1)⟩⟩
theorem ok_ratio_of {f : Addr} {fd : FuncData} (T : Top mg) (F : FnP K "ratio_of" s_ratio_of f fd) : FnOk P w K mg base CX0 1 f fd ["number"] (spRat K) := by
  have sc := sc_ratio_of
  refine ok0 F sc (fun vs H Q E h => ?_) (fun cdv A outer s H vs Q E hr h => ?_)
  · obtain ⟨v, n, rfl, _⟩ := h
    rfl
  · obtain ⟨v, n, rfl, ⟨r, rfl, hr1⟩, h0, hb1, hb2, q⟩ := h
    refine ⟨_, (pss_cons (ps_asg (pv 0) (pg_tup rfl (pgs_cons (pg_name (i := 1) sc.nd rfl (.inl rfl)) (pgs_cons (pg_name (i := 2) sc.nd rfl (.inl rfl)) pgs_nil))))
    (pss_cons (ps_if (pt_cmpR op_ge (pv 2) pe_int (nomark _))
      (pss_one (ps_ret (pe_tup (pa_cons (pe_op op_shlW (pe_callB call_abs (by rfl) T.abs (by decide +kernel) (pa_cons (pv 1) pa_nil)) (pv 2)) (pa_cons pe_int pa_nil))))) pss_nil)
    (pss_one (ps_ret (pe_tup (pa_cons (pe_callB call_abs (by rfl) T.abs (by decide +kernel) (pa_cons (pv 1) pa_nil)) (pa_cons (pe_op op_shlW pe_int (pe_un un_neg (pv 2))) pa_nil))))))), ?_⟩
    refine ⟨.ref r, rfl, r, [.int n.1, .int n.2], rfl, hr1, rfl, .int n.1, [.int n.2], rfl, .int n.2, [], rfl, rfl, ?_⟩
    have e1 : (if n.1 < 0 then -n.1 else n.1) = n.1 := if_neg (by omega)
    unfold sA sB at q
    refine ⟨.int n.2, rfl, n.2, 0, rfl, rfl, _, rfl, ite2 (fun z => ?_) (fun z => ?_)⟩
    · have z : 0 ≤ n.2 := of_decide_eq_true z
      have c1 : CShl n.1 n.2 := by
        rw [show n.2 = (n.2.toNat : Int) by omega]
        exact shl_ok hb1 (by omega)
      rw [show (-n.2).toNat = 0 by omega] at q
      refine ⟨.int n.1, rfl, n.1, rfl, ?_⟩
      rw [e1]
      exact ⟨.int n.2, rfl, n.1, n.2, rfl, rfl, c1, by show 2 ≤ sizeLine; decide, fun p hp => q _ p (Ex.new hp) upd_same⟩
    · have z : ¬ 0 ≤ n.2 := fun y => z (decide_eq_true y)
      have c1 : CShl 1 (-n.2) := by
        rw [show -n.2 = ((-n.2).toNat : Int) by omega]
        exact shl_ok (i := 1) (n := 1) (by decide) (by omega)
      rw [show n.2.toNat = 0 by omega, Int.pow_zero, Int.mul_one] at q
      refine ⟨.int n.1, rfl, n.1, rfl, ?_⟩
      rw [e1]
      refine ⟨.int n.2, rfl, n.2, rfl, 1, -n.2, rfl, rfl, c1, by show 2 ≤ sizeLine; decide, fun p hp => q _ p (Ex.new hp) ?_⟩
      show upd H p (.tup [.int n.1, .int (1 * 2 ^ (-n.2).toNat)]) p = _
      rw [Int.one_mul]
      exact upd_same
theorem ok_first_power {f SA OP : Addr} {fd : FuncData} (T : Top mg) (C : SerC mg K w SA OP) (F : FnP K "first_power" s_first_power f fd) : FnOk P w K mg base CX0 1 f fd ["word", "x_top"] spFp := by
  have sc := sc_first_power
  have m_SERIES := C.m
  have DS := C.tab
  refine ok0 F sc (fun vs H Q E h => ?_) (fun cdv A outer s H vs Q E hr h => ?_)
  · obtain ⟨w, X, rfl, _⟩ := h
    rfl
  · obtain ⟨w, X, rfl, hX, q⟩ := h
    refine ⟨_, (pss_cons (ps_if (pt_cmpR op_eq (pv 0) pe_str (nomark _))
      (pss_one (ps_ret (pe_op op_mulX pe_int (pv 1)))) pss_nil)
    (pss_one (ps_ret (pe_ifExp (pt_cmpR op_eq (pe_ix ix_tup (pe_ix (ix_tab DS) (pe_glob (v := .ref SA) (by rfl) m_SERIES rfl) (pv 0) (fun _ _ => rfl)) pe_int (fun _ _ => rfl)) pe_int (nomark _)) (pv 1) pe_int)))), ?_⟩
    have wl := ws_eq w .log
    refine ⟨.str w.s, rfl, rfl, _, rfl, ite2 (fun z => ?_) (fun z => ?_)⟩
    · have e : w = .log := of_decide_eq_true (wl ▸ z)
      subst e
      refine ⟨.int X, rfl, 2, X, rfl, rfl, mx (a := 2) (by decide) hX (by decide), ?_⟩
      have e2 : Pj .log X 0 = 2 * X := by
        show 1 * (2 * X ^ 1) = 2 * X
        rw [Int.pow_one, Int.one_mul]
      rw [e2] at q
      exact q
    · have e : w ≠ .log := fun y => z (wl.trans (decide_eq_true y))
      obtain ⟨a, ha, hs⟩ := C.it w
      refine ⟨.str w.s, rfl, w.s, .ref a, .ref a, rfl, rfl, ha, rfl, a, _, 0, .int (w.k0 : Int), rfl, rfl, hs H, rfl, rfl, _, rfl, ite2 (fun y => ?_) (fun y => ?_)⟩
      · have e2 : Pj w X 0 = X := by
          have y : (w.k0 : Int) = 1 := V.int.inj (of_decide_eq_true y)
          cases w <;> first
            | exact absurd rfl e
            | (show 1 * (1 * X ^ 1) = X; rw [Int.pow_one, Int.one_mul, Int.one_mul])
            | exact absurd y (by decide)
        rw [e2] at q
        exact ⟨.int X, rfl, q⟩
      · have e2 : Pj w X 0 = 1 := by
          have y : ¬ (w.k0 : Int) = 1 := fun z => y (decide_eq_true (congrArg V.int z))
          cases w <;> first
            | exact absurd rfl e
            | exact absurd rfl y
            | (show 1 * (1 * X ^ 0) = 1; rw [Int.pow_zero]; rfl)
        rw [e2] at q
        exact q
theorem ok_argument_of {f f1 : Addr} {fd fd1 : FuncData} (T : Top mg) (F : FnP K "argument_of" s_argument_of f fd) (c_ratio_of : Cal P w K mg base CX0 1 "ratio_of" ["number"] (spRat K) f1 fd1) : FnOk P w K mg base CX0 2 f fd ["word", "number"] (spArg K) := by
  have sc := sc_argument_of
  refine ok0 F sc (fun vs H Q E h => ?_) (fun cdv A outer s H vs Q E hr h => ?_)
  · obtain ⟨w, v, n, rfl, _⟩ := h
    rfl
  · obtain ⟨w, v, n, rfl, ⟨r, rfl, hr1⟩, h0, hb1, hb2, q⟩ := h
    refine ⟨_, (pss_cons (ps_asg (pv 1) (pg_tup rfl (pgs_cons (pg_name (i := 2) sc.nd rfl (.inl rfl)) (pgs_cons (pg_name (i := 3) sc.nd rfl (.inl rfl)) pgs_nil))))
    (pss_cons (ps_if (pt_cmpR op_ne (pv 0) pe_str (nomark _))
      (pss_one (ps_ret (pe_tup (pa_cons (pe_op op_shlW (pv 2) (pe_callB (call_max2 rfl) (by rfl) T.max (by decide +kernel) (pa_cons (pv 3) (pa_cons pe_int pa_nil)))) (pa_cons pe_int (pa_cons (pe_callB (call_max2 rfl) (by rfl) T.max (by decide +kernel) (pa_cons (pe_un un_neg (pv 3)) (pa_cons pe_int pa_nil))) pa_nil)))))) pss_nil)
    (pss_cons (ps_asg (pe_call c_ratio_of.ok (hr.mono (by decide)) (by rfl) c_ratio_of.m c_ratio_of.kp c_ratio_of.b .nil pass0 (pa_cons (pv 1) pa_nil)) (pg_tup rfl (pgs_cons (pg_name (i := 4) sc.nd rfl (.inl rfl)) (pgs_cons (pg_name (i := 5) sc.nd rfl (.inl rfl)) pgs_nil))))
    (pss_one (ps_ret (pe_tup (pa_cons (pe_op op_sub (pv 4) (pv 5)) (pa_cons (pe_op op_add (pv 4) (pv 5)) (pa_cons pe_int pa_nil))))))))), ?_⟩
    have wl := ws_eq w .log
    refine ⟨.ref r, rfl, r, [.int n.1, .int n.2], rfl, hr1, rfl, .int n.1, [.int n.2], rfl, .int n.2, [], rfl, rfl, ?_⟩
    unfold argX argY argQ at q
    refine ⟨.str w.s, rfl, rfl, _, rfl, ite2 (fun z => ?_) (fun z => ?_)⟩
    · have e : w ≠ .log := fun y => by
        rw [show decide (V.str w.s = V.str "log") = decide (w = .log) from wl, decide_eq_true y] at z
        cases z
      rw [if_neg e, if_neg e, if_neg e] at q
      unfold sA at q
      have m1 : (if 0 > n.2 then 0 else n.2) = ((n.2.toNat : Nat) : Int) := by
        by_cases y : 0 > n.2
        · rw [if_pos y]; omega
        · rw [if_neg y]; omega
      have m2 : (if 0 > -n.2 then 0 else -n.2) = (((-n.2).toNat : Nat) : Int) := by
        by_cases y : 0 > -n.2
        · rw [if_pos y]; omega
        · rw [if_neg y]; omega
      refine ⟨.int n.1, rfl, .int n.2, rfl, n.2, 0, rfl, ?_⟩
      rw [m1]
      refine ⟨n.1, _, rfl, rfl, shl_ok hb1 (by omega), .int n.2, rfl, n.2, rfl, -n.2, 0, rfl, ?_⟩
      rw [m2]
      refine ⟨by show 3 ≤ sizeLine; decide, fun p hp => q _ p (Ex.new hp) upd_same⟩
    · have e : w = .log := by
        refine Classical.byContradiction fun y => z ?_
        rw [show decide (V.str w.s = V.str "log") = decide (w = .log) from wl, decide_eq_false y]
        rfl
      rw [if_pos e, if_pos e, if_pos e] at q
      refine ⟨.ref r, rfl, .ref r, n, rfl, ⟨r, rfl, hr1⟩, h0 e, hb1, hb2, fun H1 p e1 hp => ?_⟩
      refine ⟨p, _, rfl, st_of hp, rfl, .int (sA n), _, rfl, .int (sB n), [], rfl, rfl, ?_⟩
      refine ⟨.int (sA n), rfl, .int (sB n), rfl, _, _, rfl, rfl, .int (sA n), rfl, .int (sB n), rfl, _, _, rfl, rfl, by show 3 ≤ sizeLine; decide, fun p2 hp2 => ?_⟩
      exact q _ p2 (e1.trans (Ex.new hp2)) upd_same
theorem ok_sum_of_terms {f f1 f2 SA OP : Addr} {fd fd1 fd2 : FuncData} (T : Top mg) (C : SerC mg K w SA OP) (F : FnP K "sum_of_terms" s_sum_of_terms f fd) (c_argument_of : Cal P w K mg base CX0 2 "argument_of" ["word", "number"] (spArg K) f1 fd1) (c_first_power : Cal P w K mg base CX0 1 "first_power" ["word", "x_top"] spFp f2 fd2) : FnOk P w K mg base CX0 3 f fd ["word", "number", "many"] (spSumT K) := by
  have sc := sc_sum_of_terms
  have m_SERIES := C.m
  have DS := C.tab
  refine ok0 F sc (fun vs H Q E h => ?_) (fun cdv A outer s H vs Q E hr h => ?_)
  · obtain ⟨w, v, n, j, rfl, _⟩ := h
    rfl
  · obtain ⟨w, v, n, j, rfl, hv, h0, sz, q⟩ := h
    refine ⟨_, (pss_cons (ps_asg (pe_call c_argument_of.ok (hr.mono (by decide)) (by rfl) c_argument_of.m c_argument_of.kp c_argument_of.b .nil pass0 (pa_cons (pv 0) (pa_cons (pv 1) pa_nil))) (pg_tup rfl (pgs_cons (pg_name (i := 3) sc.nd rfl (.inl rfl)) (pgs_cons (pg_name (i := 4) sc.nd rfl (.inl rfl)) (pgs_cons (pg_name (i := 5) sc.nd rfl (.inl rfl)) pgs_nil)))))
    (pss_cons (ps_asg (pe_ix (ix_tab DS) (pe_glob (v := .ref SA) (by rfl) m_SERIES rfl) (pv 0) (fun _ _ => rfl)) (pg_tup rfl (pgs_cons (pg_name (i := 6) sc.nd rfl (.inl rfl)) (pgs_cons (pg_name (i := 7) sc.nd rfl (.inl rfl)) (pgs_cons (pg_name (i := 8) sc.nd rfl (.inl rfl)) pgs_nil)))))
    (pss_cons (ps_asg2 (pe_call c_first_power.ok (hr.mono (by decide)) (by rfl) c_first_power.m c_first_power.kp c_first_power.b .nil pass0 (pa_cons (pv 0) (pa_cons (pv 3) pa_nil))) (pg_name (i := 9) sc.nd rfl (.inl rfl)) (pg_name (i := 10) sc.nd rfl (.inl rfl)))
    (pss_cons (ps_asg (pe_ifExp (pt_cmpR op_eq (pv 6) pe_int (nomark _)) (pe_tup (pa_cons (pv 4) (pa_cons (pv 5) pa_nil))) (pe_tup (pa_cons pe_int (pa_cons pe_int pa_nil)))) (pg_tup rfl (pgs_cons (pg_name (i := 11) sc.nd rfl (.inl rfl)) (pgs_cons (pg_name (i := 12) sc.nd rfl (.inl rfl)) pgs_nil))))
    (pss_cons (ps_set (i := 13) sc.nd rfl (.inl rfl) pe_int)
    (pss_cut (ps_if (pt_cmpR op_eq (pv 7) pe_int (nomark _))
      (pss_one (ps_par3 (by rfl) sc.nd (i := 3) (j := 4) (l := 5) rfl rfl rfl (by decide) (by decide) (by decide) rfl rfl rfl (pa_cons (pe_op op_mulX (pv 3) (pv 3)) (pa_cons (pe_op op_mulX (pv 4) (pv 4)) (pa_cons (pe_op op_mulX pe_int (pv 5)) pa_nil))) (by rfl))) pss_nil)
    (pss_cons (ps_for PassesOwn.never rfl (pi_range1 (by rfl) T.range (pa_cons (pe_op op_sub (pv 2) pe_int) pa_nil)) (pg_name (i := 14) sc.nd rfl (.inl rfl))
      (pss_cons (ps_aug (i := 10) sc.nd rfl (.inl rfl) (pe_op op_mulX (pv 8) (pv 3)) iop_mulX)
      (pss_cut (ps_if (pt_cmpR op_in_seq (pv 0) (pe_tup (pa_cons pe_str (pa_cons pe_str pa_nil))) (by with_unfolding_all rfl))
        (pss_cons (ps_aug (i := 13) sc.nd rfl (.inl rfl) (pv 6) iop_mulX)
        (pss_one (ps_set (i := 15) sc.nd rfl (.inl rfl) (pe_op op_mulX (pv 4) (pe_op op_add (pv 6) pe_int))))) (pss_one (ps_set (i := 15) sc.nd rfl (.inl rfl) (pe_ifExp (pt_cmpR op_eq (pv 7) pe_int (nomark _)) (pe_op op_add (pv 6) pe_int) (pe_op op_mulX (pe_op op_add (pv 6) pe_int) (pe_op op_add (pv 6) pe_int))))))
      (pss_cons (ps_set (i := 9) sc.nd rfl (.inl rfl) (pe_op op_add (pe_op op_shlW (pe_op op_mulX (pv 9) (pv 15)) (pv 5)) (pe_op op_mulX (pv 10) (pv 13))))
      (pss_cons (ps_aug (i := 11) sc.nd rfl (.inl rfl) (pv 15) iop_mulX)
      (pss_cons (ps_aug (i := 12) sc.nd rfl (.inl rfl) (pv 5) ip_add)
      (pss_one (ps_aug (i := 6) sc.nd rfl (.inl rfl) (pv 7) ip_add))))))))
    (pss_one (ps_ret (pe_tup (pa_cons (pv 9) (pa_cons (pe_op op_shlW (pv 11) (pv 12)) pa_nil)))))))))))), ?_⟩
    obtain ⟨c, B, _, _⟩ := sz.bnd
    have B : Bnd w (argX w n) (argY w n) (argQ w n) c j := B
    have y1 := (arg_rel h0).2.2.2
    have j59 := B.j59
    refine ⟨.str w.s, rfl, v, rfl, w, v, n, rfl, hv, h0, sz.n1, sz.n2, fun H1 p e1 hp => ?_⟩
    generalize argX w n = X at *
    generalize argY w n = Y at *
    generalize argQ w n = qq at *
    have c45 := B.c45
    have x45 := bb_up B.x c45
    have y45 := bb_up B.y c45
    have q45 := Nat.le_trans B.q c45
    refine ⟨p, _, rfl, st_of hp, rfl, .int X, _, rfl, .int Y, _, rfl, .int (qq : Int), [], rfl, rfl, ?_⟩
    obtain ⟨a, ha, hs⟩ := C.it w
    refine ⟨.str w.s, rfl, w.s, .ref a, .ref a, rfl, rfl, ha, rfl, a, _, rfl, hs H1, rfl, .int (w.k0 : Int), _, rfl, .int (w.st : Int), _, rfl, .int w.tn, [], rfl, rfl, ?_⟩
    refine ⟨.str w.s, rfl, .int X, rfl, w, X, rfl, bb_up x45 (by decide), ?_⟩
    have kk0 : kk w 0 = w.k0 := rfl
    have tk : ∀ {σ' : L2.St} {H' : Hp} {i : Nat} {x : Int} (z : Int), σ'[i]? = some (some (.int x)) → EvT (tTest (tOp rEq (tVar i) (tC (.int z)))) σ' H' (decide (x = z)) := fun {σ' H' i x} z hi => by
      have := et_test (ev_op (H := H') (ev_var (i := i) (σ := σ') hi) (ev_c (v := .int z)) (rv_eq (x := .int x) (y := .int z) rfl))
      rw [decV] at this
      exact this
    refine if_pair (.int (Bj w Y 0)) (.int ((qq * kk w 0 : Nat) : Int)) (tk (i := 6) 1 rfl) (fun z H2 e2 Q' q' => ?_) (fun z H2 e2 Q' q' => ?_) fun H2 p2 e2 hp2 => ?_
    · have z : w.k0 = 1 := by have := of_decide_eq_true z; omega
      rw [B0, if_pos z, kk0, z, Nat.mul_one] at q'
      exact ⟨.int Y, rfl, .int (qq : Int), rfl, q'⟩
    · have z : w.k0 = 0 := by have := of_decide_eq_false z; have := k01 w; omega
      rw [B0, if_neg (by omega), kk0, z, Nat.mul_zero] at q'
      exact q'
    refine ⟨p2, _, rfl, st_of hp2, rfl, .int (Bj w Y 0), _, rfl, .int ((qq * kk w 0 : Nat) : Int), [], rfl, rfl, ?_⟩
    have e12 := e1.trans e2
    refine ⟨fun σ' H' => Ex H H' ∧ σ' = [some (.str w.s), some v, some (.int ((j : Int) + 1)), some (.int (X ^ w.st)), some (.int (sqY w Y)), some (.int ((w.st * qq : Nat) : Int)), some (.int (kk w 0 : Int)), some (.int (w.st : Int)), some (.int w.tn), some (.int (Pj w X 0)), some (.int (Pj w X 0)), some (.int (Bj w Y 0)), some (.int ((qq * kk w 0 : Nat) : Int)), some (.int 1), none, none], ?_, ?_⟩
    · refine s_when (tk (i := 7) 2 rfl) (fun z H3 e3 => ?_) (fun z H3 e3 => ?_)
      · have z : w.st = 2 := by have := of_decide_eq_true z; omega
        refine ⟨.int X, rfl, .int X, rfl, X, X, rfl, rfl, mx x45 x45 (by decide), .int Y, rfl, .int Y, rfl, Y, Y, rfl, rfl, mx y45 y45 (by decide), .int (qq : Int), rfl, 2, (qq : Int), rfl, rfl, mx (a := 1) (by decide) (bb_nat (Nat.le_trans q45 (by decide : 45 ≤ 2 ^ 6))) (by decide), _, _, _, rfl, e12.trans e3, ?_⟩
        unfold sqY
        rw [if_pos z, z, show X ^ 2 = X * X by rw [show (2 : Nat) = 1 + 1 from rfl, Int.pow_succ, Int.pow_one], kk0, Int.natCast_mul]
        rfl
      · have z : w.st = 1 := by have := of_decide_eq_false z; have := st12 w; omega
        refine ⟨e12.trans e3, ?_⟩
        unfold sqY
        rw [if_neg (by omega), z, Int.pow_one, Nat.one_mul, kk0]
        rfl
    rintro σ' H3 ⟨e3, rfl⟩
    have sx : (X ^ w.st).natAbs ≤ 2 ^ 90 := bb_up (bb_pow x45 w.st) (by have := st_le w; omega)
    have sy : (sqY w Y).natAbs ≤ 2 ^ 90 := by
      unfold sqY
      by_cases z : w.st = 2
      · rw [if_pos z]
        exact bb_mul y45 y45
      · rw [if_neg z]
        exact bb_up y45 (by decide)
    have tn1 : w.tn.natAbs ≤ 2 ^ 1 := by cases w <;> decide
    have sq : w.st * qq ≤ 90 := Nat.le_trans (Nat.mul_le_mul (st_le w) q45) (by decide)
    refine ⟨.int ((j : Int) + 1), rfl, _, 1, rfl, rfl, (j : Int), congrArg (fun z => [V.int z]) (show (j : Int) + 1 - 1 = (j : Int) by omega), by omega, by omega, for_range (lo := 0) (n := ((j : Nat) : Int).toNat) (fun i σ' H' => Ex H H' ∧ i ≤ j ∧ ∃ t1 t2, σ' = [some (.str w.s), some v, some (.int ((j : Int) + 1)), some (.int (X ^ w.st)), some (.int (sqY w Y)), some (.int ((w.st * qq : Nat) : Int)), some (.int (kk w i : Int)), some (.int (w.st : Int)), some (.int w.tn), some (.int (Tj w X Y qq i)), some (.int (Pj w X i)), some (.int (Bj w Y i)), some (.int ((qq * kk w i : Nat) : Int)), some (.int (Wj w i)), t1, t2]) ⟨e3, Nat.zero_le _, none, none, rfl⟩ (fun i σ' H4 hi hp4 => ?_) (fun σ' H4 hp4 => ?_)⟩
    · obtain ⟨e4, _, t1, t2, rfl⟩ := hp4
      have hi : i < j := hi
      have Bi := B.down (show i ≤ j by omega)
      have Bs := B.down (show i + 1 ≤ j by omega)
      have k119 := kk_le w (show i ≤ 59 by omega)
      have Ti := bb_up Bi.T (b := 14000) (by omega)
      have k7 : ((kk w i : Int)).natAbs ≤ 2 ^ 7 := bb_nat (show kk w i ≤ 128 by omega)
      have k71 : ((kk w i : Int) + 1).natAbs ≤ 2 ^ 7 := by show _ ≤ 128; omega
      have k72 : ((kk w i : Int) + 2).natAbs ≤ 2 ^ 7 := by show _ ≤ 128; omega
      refine g_name ?_
      refine ⟨.int (Pj w X i), rfl, .int w.tn, rfl, .int (X ^ w.st), rfl, w.tn, X ^ w.st, rfl, rfl, mx tn1 sx (by decide), Pj w X i, w.tn * X ^ w.st, rfl, rfl, mx Bi.P (bb_mul tn1 sx) (by decide), ?_⟩
      dsimp only
      rw [← Pj_succ]
      refine ⟨fun σ' H' => Ex H H' ∧ σ' = [some (.str w.s), some v, some (.int ((j : Int) + 1)), some (.int (X ^ w.st)), some (.int (sqY w Y)), some (.int ((w.st * qq : Nat) : Int)), some (.int (kk w i : Int)), some (.int (w.st : Int)), some (.int w.tn), some (.int (Tj w X Y qq i)), some (.int (Pj w X (i + 1))), some (.int (Bj w Y i)), some (.int ((qq * kk w i : Nat) : Int)), some (.int (Wj w (i + 1))), some (.int (0 + (i : Int))), some (.int (gj w Y i))], ?_, ?_⟩
      · refine ⟨.str w.s, rfl, by show 2 ≤ sizeLine; decide, fun p5 hp5 => ?_⟩
        refine ⟨p5, _, rfl, .inr (st_of upd_same), rfl, rfl, _, rfl, ?_⟩
        have e5 := e4.trans (Ex.new (o := .tup [.str "arc", .str "log"]) hp5)
        rw [in_al]
        rw [gj_sq]
        refine ite2 (fun z => ?_) (fun z => ?_)
        · have z : w.odd = true := z
          rw [if_pos z, Wj_succ z]
          exact ⟨.int (Wj w i), rfl, .int (kk w i : Int), rfl, Wj w i, (kk w i : Int), rfl, rfl, mx Bi.W k7 (by decide), .int (sqY w Y), rfl, .int (kk w i : Int), rfl, _, 2, rfl, rfl, sqY w Y, (kk w i : Int) + 2, rfl, rfl, mx sy k72 (by decide), e5, rfl⟩
        · have z : ¬ w.odd = true := z
          have zo : w.odd = false := by cases h : w.odd with | true => exact absurd h z | false => rfl
          rw [if_neg z, Wj_one zo, Wj_one zo]
          refine (tk (i := 7) 1 rfl) _ (Ex.refl _) _ fun H6 e6 => ?_
          by_cases s1 : w.st = 1
          · rw [if_pos s1, decide_eq_true (show (w.st : Int) = 1 by omega), if_pos rfl]
            exact ⟨.int (kk w i : Int), rfl, _, 1, rfl, rfl, e5.trans e6, rfl⟩
          · rw [if_neg s1, decide_eq_false (show ¬ (w.st : Int) = 1 by omega), if_neg (by decide)]
            exact ⟨.int (kk w i : Int), rfl, _, 1, rfl, rfl, .int (kk w i : Int), rfl, _, 2, rfl, rfl, _, _, rfl, rfl, mx k71 k72 (by decide), e5.trans e6, rfl⟩
      rintro σ' H5 ⟨e5, rfl⟩
      refine ⟨.int (Tj w X Y qq i), rfl, .int (gj w Y i), rfl, _, _, rfl, rfl, mx Ti Bi.g (by decide), .int ((w.st * qq : Nat) : Int), rfl, _, _, rfl, rfl, shl_le (bb_mul Ti Bi.g) (by omega), .int (Pj w X (i + 1)), rfl, .int (Wj w (i + 1)), rfl, _, _, rfl, rfl, mx Bs.P Bs.W (by decide), _, _, rfl, rfl, ?_⟩
      refine ⟨.int (Bj w Y i), rfl, .int (gj w Y i), rfl, _, _, rfl, rfl, mx Bi.B Bi.g (by decide), ?_⟩
      dsimp only
      rw [← Bj_succ w y1]
      refine ⟨.int ((qq * kk w i : Nat) : Int), rfl, .int ((w.st * qq : Nat) : Int), rfl, _, _, rfl, rfl, ?_⟩
      refine ⟨.int (kk w i : Int), rfl, .int (w.st : Int), rfl, _, _, rfl, rfl, e5, hi, some (.int (0 + (i : Int))), some (.int (gj w Y i)), ?_⟩
      have ek : ((kk w (i + 1) : Nat) : Int) = (kk w i : Int) + (w.st : Int) := by rw [kk_succ]; omega
      have es : ((qq * kk w (i + 1) : Nat) : Int) = ((qq * kk w i : Nat) : Int) + ((w.st * qq : Nat) : Int) := by
        rw [kk_succ, Nat.mul_add, Nat.mul_comm qq w.st]
        omega
      rw [ek, es]
      rfl
    · obtain ⟨e4, _, t1, t2, rfl⟩ := hp4
      refine ⟨.int (Tj w X Y qq j), rfl, .int (Bj w Y j), rfl, .int ((qq * kk w j : Nat) : Int), rfl, _, _, rfl, rfl, shl_le B.B (by have := B.S; omega), by show 2 ≤ sizeLine; decide, fun p5 hp5 => ?_⟩
      exact q _ p5 (e4.trans (Ex.new hp5)) upd_same
def oddC (t b : Int) (p : Nat) : Bool := decide (t % (p : Int) = 0) && decide (b % (p : Int) = 0)
def oddL (t b : Int) : List Nat := oddP.filter (oddC t b)
def prI (l : List Nat) : Nat → Int
  | 0 => 1
  | i + 1 => prI l i * ((l.getD i 1 : Nat) : Int)
theorem prI_dvd (l : List Nat) : ∀ i k : Nat, k < i → (((l.getD k 1 : Nat) : Int)) ∣ prI l i
  | 0, k, h => by omega
  | i + 1, k, h => by
    by_cases e : k = i
    · rw [e]
      exact ⟨prI l i, Int.mul_comm _ _⟩
    · exact Int.dvd_trans (prI_dvd l i k (by omega)) ⟨_, rfl⟩
theorem odd_le {i p : Nat} (h : oddP[i]? = some p) : 3 ≤ p ∧ p ≤ 113 := by
  have : ∀ q ∈ oddP, 3 ≤ q ∧ q ≤ 113 := by decide
  exact this p (List.mem_of_getElem? h)
theorem prI_pos {i : Nat} (h : i ≤ 29) : 0 < prI oddP i ∧ (prI oddP i).natAbs ≤ 2 ^ (7 * i) := by
  induction i with
  | zero => exact ⟨by decide, Nat.le_refl 1⟩
  | succ i ih =>
    obtain ⟨h1, h2⟩ := ih (by omega)
    have hl : i < oddP.length := by show i < 29; omega
    have e : oddP[i]? = some (oddP.getD i 1) := by rw [List.getD_eq_getElem?_getD, List.getElem?_eq_getElem hl]; rfl
    have b := odd_le e
    refine ⟨Int.mul_pos h1 (by omega), ?_⟩
    rw [Nat.mul_succ]
    exact bb_mul h2 (bb_nat (show oddP.getD i 1 ≤ 128 by omega))
def spOdd : Sp := fun vs H Q _ => ∃ t b : Int, vs = [.int t, .int b] ∧ ∀ H' p, Ex H H' → H' p = some (.lst ((oddL t b).map fun p : Nat => V.int (p : Int))) → Q (.ref p) H'
theorem ok_odd_primes_of_both {f SA OP : Addr} {fd : FuncData} (T : Top mg) (C : SerC mg K w SA OP) (F : FnP K "odd_primes_of_both" s_odd_primes_of_both f fd) : FnOk P w K mg base CX0 1 f fd ["top", "bottom"] spOdd := by
  have sc := sc_odd_primes_of_both
  have m_ODD := C.mo
  refine ok0 F sc (fun vs H Q E h => ?_) (fun cdv A outer s H vs Q E hr h => ?_)
  · obtain ⟨t, b, rfl, _⟩ := h
    rfl
  · obtain ⟨t, b, rfl, q⟩ := h
    refine ⟨_, (pss_cons (ps_set (i := 2) sc.nd rfl (by first | exact .inl rfl | exact .inr rfl) pe_int)
    (pss_cons (ps_for PassesOwn.never rfl (pi_tup (pe_glob (v := .ref OP) (by rfl) m_ODD rfl)) (pg_name (i := 3) sc.nd rfl (by first | exact .inl rfl | exact .inr rfl))
      (pss_one (ps_aug (i := 2) sc.nd rfl (by first | exact .inl rfl | exact .inr rfl) (pv 3) iop_mulX)))
    (pss_cons (ps_aug (i := 0) sc.nd rfl (by first | exact .inl rfl | exact .inr rfl) (pv 2) iop_mod)
    (pss_cons (ps_aug (i := 1) sc.nd rfl (by first | exact .inl rfl | exact .inr rfl) (pv 2) iop_mod)
    (pss_one (ps_ret (pe_lc (own := [("prime", 3)]) (g := gName 3) (tt := (tAnd (tTest (tOp rEq (tOp (rI (fun _ j => 0 < j) fun i j => .int (i % j)) (tVar 0) (tVar 3)) (tC (.int 0)))) (tTest (tOp rEq (tOp (rI (fun _ j => 0 < j) fun i j => .int (i % j)) (tVar 1) (tVar 3)) (tC (.int 0)))))) (by rfl) sc.nd (pi_tup (pe_glob (v := .ref OP) (by rfl) m_ODD rfl)) (blkOk_by (own := [("prime", 3)]) (N := ["top", "bottom", "every", "prime"]) (sc := defScope s_odd_primes_of_both) (by decide +kernel)) (fun _ _ _ _ _ => pg_name (i := 3) sc.nd rfl (Or.inl rfl)) (fun _ _ _ _ _ => pts_one (PW.pt (pw_and (pt_cmpR op_eq (pe_op op_mod (pv 0) (pv 3)) pe_int (nomark _)) (pw_and1 (pt_cmpR op_eq (pe_op op_mod (pv 1) (pv 3)) pe_int (nomark _)))))) (fun _ _ _ _ _ => (pv 3))))))))), ?_⟩
    have ol : (oddP.map fun p : Nat => V.int (p : Int)).length = 29 := rfl
    refine ⟨OP, rfl, ⟨_, C.odd H⟩, for_tup (xs := oddP.map fun p : Nat => V.int (p : Int)) (fun i σ' H' => H' = H ∧ ∃ t3, σ' = [some (.int t), some (.int b), some (.int (prI oddP i)), t3]) ⟨rfl, none, rfl⟩ (fun i σ' H' _ _ => C.odd H') (fun i x σ' H' hx hp => ?_) (fun σ' H' hp => ?_)⟩
    · obtain ⟨rfl, t3, rfl⟩ := hp
      rw [List.getElem?_map] at hx
      cases ho : oddP[i]? with
      | none =>
        rw [ho] at hx
        cases hx
      | some p =>
        rw [ho] at hx
        cases hx
        have il : i < 29 := (List.getElem?_eq_some_iff.mp ho).1
        have bp := odd_le ho
        refine g_name ?_
        refine ⟨.int (prI oddP i), rfl, .int (p : Int), rfl, prI oddP i, (p : Int), rfl, rfl, mx (prI_pos (show i ≤ 29 by omega)).2 (bb_nat (a := 7) (show p ≤ 128 by omega)) (by omega), rfl, some (.int (p : Int)), ?_⟩
        have e : prI oddP (i + 1) = prI oddP i * (p : Int) := by
          show prI oddP i * ((oddP.getD i 1 : Nat) : Int) = _
          rw [List.getD_eq_getElem?_getD, ho]
          rfl
        rw [e]
        rfl
    · obtain ⟨rfl, t3, rfl⟩ := hp
      dsimp only
      rw [ol]
      have E0 := (prI_pos (i := 29) (by decide)).1
      have Ed : ∀ {i p : Nat}, oddP[i]? = some p → (p : Int) ∣ prI oddP 29 := fun {i p} h => by
        have il : i < 29 := (List.getElem?_eq_some_iff.mp h).1
        have := prI_dvd oddP 29 i il
        rw [List.getD_eq_getElem?_getD, h] at this
        exact this
      generalize prI oddP 29 = Z at *
      refine ⟨.int t, rfl, .int Z, rfl, t, Z, rfl, rfl, E0, ?_⟩
      refine ⟨.int b, rfl, .int Z, rfl, b, Z, rfl, rfl, E0, ?_⟩
      refine ⟨OP, rfl, ⟨_, C.odd H'⟩, fun D hD => lc_tup (xs := oddP.map fun p : Nat => V.int (p : Int)) (fun k H2 => Ex H' H2 ∧ H2 D = some (.lst (((oddP.take k).filter (oddC t b)).map fun p : Nat => V.int (p : Int)))) ⟨Ex.new hD, upd_same⟩ (fun i H2 _ _ => C.odd H2) (fun i x H2 hx hk => ?_) (fun H2 hk => ?_)⟩
      · obtain ⟨e2, hl⟩ := hk
        rw [List.getElem?_map] at hx
        cases ho : oddP[i]? with
        | none =>
          rw [ho] at hx
          cases hx
        | some p =>
          rw [ho] at hx
          cases hx
          have bp := odd_le ho
          have il : i < 29 := (List.getElem?_eq_some_iff.mp ho).1
          have p0 : (0 : Int) < (p : Int) := by omega
          have tk : oddP.take (i + 1) = oddP.take i ++ [p] := by
            rw [List.take_succ, ho]
            rfl
          refine ⟨rfl, ?_⟩
          have tm : ∀ {σ' : L2.St} {H' : Hp} {j : Nat} {z : Int}, σ'[j]? = some (some (.int (z % Z))) → σ'[3]? = some (some (.int (p : Int))) → EvT (tTest (tOp rEq (tOp (rI (fun _ j => 0 < j) fun i j => .int (i % j)) (tVar j) (tVar 3)) (tC (.int 0)))) σ' H' (decide (z % (p : Int) = 0)) := fun {σ' H' j z} h1 h2 => by
            have := et_test (ev_op (H := H') (ev_op (ev_var (i := j) (σ := σ') h1) (ev_var (i := 3) h2) (rv_I (C := fun _ j => 0 < j) (g := fun i j => .int (i % j)) p0)) (ev_c (v := .int 0)) (rv_eq (x := .int (z % Z % (p : Int))) (y := .int 0) rfl))
            rw [decV, Int.emod_emod_of_dvd z (Ed ho)] at this
            exact this
          refine (et_and (tm (j := 0) (z := t) rfl rfl) (fun _ => tm (j := 1) (z := b) rfl rfl)) H2 (Ex.refl H2) _ fun H3 e3 => ?_
          rw [tk, List.filter_append, List.map_append]
          have len : (((oddP.take i).filter (oddC t b)).map fun p : Nat => V.int (p : Int)).length < sizeLine := by
            refine sz_lt ?_
            rw [List.length_map]
            exact Nat.le_trans (Nat.lt_succ_of_le (List.length_filter_le _ _)) (by rw [List.length_take]; omega)
          by_cases z : oddC t b p = true
          · have z2 : (decide (t % (p : Int) = 0) && decide (b % (p : Int) = 0)) = true := z
            rw [z2, if_pos rfl, List.filter_cons_of_pos z, List.filter_nil]
            refine ⟨.int (p : Int), rfl, _, e3 _ _ hl, len, (e2.trans e3).mut hD, upd_same⟩
          · have z2 : (decide (t % (p : Int) = 0) && decide (b % (p : Int) = 0)) = false := Bool.eq_false_iff.mpr z
            rw [z2, if_neg (by decide), List.filter_cons_of_neg z, List.filter_nil, List.map_nil, List.append_nil]
            exact ⟨e2.trans e3, e3 _ _ hl⟩
      · obtain ⟨e2, hl⟩ := hk
        exact q H2 D e2 hl
def spLow : Sp := fun vs H Q _ => ∃ t b : Int, vs = [.int t, .int b] ∧ 0 < b ∧ (∀ p, Prm p → 120 < p → (p : Int) ∣ t → (p : Int) ∣ b → False) ∧ NewT H Q [.int (frc t b).1, .int (frc t b).2]
theorem ok_lowest {f f1 : Addr} {fd fd1 : FuncData} (T : Top mg) (F : FnP K "lowest" s_lowest f fd) (c_odd_primes_of_both : Cal P w K mg base CX0 1 "odd_primes_of_both" ["top", "bottom"] spOdd f1 fd1) : FnOk P w K mg base CX0 2 f fd ["top", "bottom"] spLow := by
  have sc := sc_lowest
  refine ok0 F sc (fun vs H Q E h => ?_) (fun cdv A outer s H vs Q E hr h => ?_)
  · obtain ⟨t, b, rfl, _⟩ := h
    rfl
  · obtain ⟨t, b, rfl, hb, hp, q⟩ := h
    refine ⟨_, (pss_cons (ps_if (pt_cmpR op_eq (pv 0) pe_int (nomark _))
      (pss_one (ps_ret (pe_tup (pa_cons pe_int (pa_cons pe_int pa_nil))))) pss_nil)
    (pss_cons (ps_set (i := 2) sc.nd rfl (.inl rfl) (pe_op op_or (pv 0) (pv 1)))
    (pss_cons (ps_set (i := 3) sc.nd rfl (.inl rfl) (pe_op op_sub (pe_bits (pe_op op_and (pv 2) (pe_un un_neg (pv 2)))) pe_int))
    (pss_cons (ps_aug (i := 0) sc.nd rfl (.inl rfl) (pv 3) iop_shr)
    (pss_cons (ps_aug (i := 1) sc.nd rfl (.inl rfl) (pv 3) iop_shr)
    (pss_cons (ps_for PassesOwn.never rfl (pi_list (pe_call c_odd_primes_of_both.ok (hr.mono (by decide)) (by rfl) c_odd_primes_of_both.m c_odd_primes_of_both.kp c_odd_primes_of_both.b .nil pass0 (pa_cons (pv 0) (pa_cons (pv 1) pa_nil)))) (pg_name (i := 4) sc.nd rfl (.inl rfl))
      (pss_one (ps_while PassesOwn.never (PW.pt (pw_and (pt_cmpR op_eq (pe_op op_mod (pv 0) (pv 4)) pe_int (nomark _)) (pw_and1 (pt_cmpR op_eq (pe_op op_mod (pv 1) (pv 4)) pe_int (nomark _)))))
        (pss_cons (ps_aug (i := 0) sc.nd rfl (.inl rfl) (pv 4) iop_fdiv)
        (pss_one (ps_aug (i := 1) sc.nd rfl (.inl rfl) (pv 4) iop_fdiv))))))
    (pss_one (ps_ret (pe_tup (pa_cons (pv 0) (pa_cons (pv 1) pa_nil))))))))))), ?_⟩
    refine ⟨.int t, rfl, rfl, _, rfl, ite2 (fun z => ?_) (fun z => ?_)⟩
    · have z : t = 0 := V.int.inj (of_decide_eq_true z)
      have e := frc_eq (t := t) (a := 0) (c := 1) hb (by decide) (by decide) (by rw [z, Int.zero_mul, Int.zero_mul])
      rw [← e] at q
      exact ⟨by show 2 ≤ sizeLine; decide, fun p hp => q _ p (Ex.new hp) upd_same⟩
    obtain ⟨k, x, y, rfl, rfl, hy0, hxy⟩ := share_two _ t b hb (Nat.le_refl _)
    have ek : ((Builtin.Int.intBits (Builtin.bitAnd (Builtin.bitOr (2 ^ k * x) (2 ^ k * y)) (-(Builtin.bitOr (2 ^ k * x) (2 ^ k * y)))) : Nat) : Int) - 1 = (k : Int) := by
      rw [share_bits hxy, bits_two]
      omega
    have dv : ∀ u : Int, (2 ^ k * u) / 2 ^ ((k : Int)).toNat = u := fun u => Int.mul_ediv_cancel_left u (Int.ne_of_gt (pow_pos2 k))
    refine ⟨.int (2 ^ k * x), rfl, .int (2 ^ k * y), rfl, 2 ^ k * x, 2 ^ k * y, rfl, rfl, ?_⟩
    dsimp only
    generalize Builtin.bitOr (2 ^ k * x) (2 ^ k * y) = O at ek ⊢
    refine ⟨.int O, rfl, .int O, rfl, O, rfl, O, -O, rfl, rfl, _, rfl, _, 1, rfl, rfl, ?_⟩
    dsimp only
    rw [ek]
    refine ⟨.int (2 ^ k * x), rfl, .int (k : Int), rfl, _, _, rfl, rfl, Int.natCast_nonneg _, ?_⟩
    dsimp only
    rw [dv]
    refine ⟨.int (2 ^ k * y), rfl, .int (k : Int), rfl, _, _, rfl, rfl, Int.natCast_nonneg _, ?_⟩
    dsimp only
    rw [dv]
    refine ⟨.int x, rfl, .int y, rfl, x, y, rfl, fun H1 L e1 hL => ⟨L, rfl, ⟨_, sq_of hL⟩, ?_⟩⟩
    refine for_list (xs := (oddL x y).map fun p : Nat => V.int (p : Int)) (fun i σ' H' => Ex H1 H' ∧ ∃ t' b' c t4, σ' = [some (.int t'), some (.int b'), some (.int O), some (.int (k : Int)), t4] ∧ 0 < c ∧ x = c * t' ∧ y = c * b' ∧ 0 < b' ∧ ∀ r ∈ (oddL x y).take i, ¬ ((r : Int) ∣ t' ∧ (r : Int) ∣ b')) ⟨Ex.refl H1, x, y, 1, none, rfl, by decide, by rw [Int.one_mul], by rw [Int.one_mul], hy0, fun r h => by simp at h⟩ (fun i σ' H' _ hk => sq_of (hk.1 _ _ hL)) (fun i v σ' H2 hx hk => ?_) (fun σ' H2 hk => ?_)
    · obtain ⟨e2, t1, b1, c1, t4, rfl, hc1, hx1, hy1, hb1, hall⟩ := hk
      rw [List.getElem?_map] at hx
      cases ho : (oddL x y)[i]? with
      | none =>
        rw [ho] at hx
        cases hx
      | some p =>
        rw [ho] at hx
        cases hx
        have pm : p ∈ oddP := (List.mem_filter.mp (List.mem_of_getElem? ho)).1
        obtain ⟨j, hj⟩ := List.mem_iff_getElem?.mp pm
        have bp := odd_le hj
        have p0 : (0 : Int) < (p : Int) := by omega
        have tk : (oddL x y).take (i + 1) = (oddL x y).take i ++ [p] := by
          rw [List.take_succ, ho]
          rfl
        refine g_name ?_
        refine s_while (fun m σ' H' => Ex H1 H' ∧ ∃ t' b' c, σ' = [some (.int t'), some (.int b'), some (.int O), some (.int (k : Int)), some (.int (p : Int))] ∧ 0 < c ∧ x = c * t' ∧ y = c * b' ∧ 0 < b' ∧ (∀ r ∈ (oddL x y).take i, ¬ ((r : Int) ∣ t' ∧ (r : Int) ∣ b')) ∧ m = b'.natAbs) _ ⟨e2, t1, b1, c1, rfl, hc1, hx1, hy1, hb1, hall, rfl⟩ ?_
        rintro m σ' H3 ⟨e3, t2, b2, c2, rfl, hc2, hx2, hy2, hb2, hall2, hm⟩
        have tm : ∀ {σ' : L2.St} {H' : Hp} {j : Nat} {z : Int}, σ'[j]? = some (some (.int z)) → σ'[4]? = some (some (.int (p : Int))) → EvT (tTest (tOp rEq (tOp (rI (fun _ j => 0 < j) fun i j => .int (i % j)) (tVar j) (tVar 4)) (tC (.int 0)))) σ' H' (decide (z % (p : Int) = 0)) := fun {σ' H' j z} h1 h2 => by
          have := et_test (ev_op (H := H') (ev_op (ev_var (i := j) (σ := σ') h1) (ev_var (i := 4) h2) (rv_I (C := fun _ j => 0 < j) (g := fun i j => .int (i % j)) p0)) (ev_c (v := .int 0)) (rv_eq (x := .int (z % (p : Int))) (y := .int 0) rfl))
          rw [decV] at this
          exact this
        refine ⟨_, et_and (tm (j := 0) (z := t2) rfl rfl) (fun _ => tm (j := 1) (z := b2) rfl rfl), fun hz H4 e4 => ?_, fun hz H4 e4 => ?_⟩
        · obtain ⟨z1, z2⟩ := Bool.and_eq_true_iff.mp hz
          have z1 : t2 % (p : Int) = 0 := of_decide_eq_true z1
          have z2 : b2 % (p : Int) = 0 := of_decide_eq_true z2
          have d1 : t2 = (p : Int) * (t2 / p) := by have := Int.mul_ediv_add_emod t2 p; omega
          have d2 : b2 = (p : Int) * (b2 / p) := by have := Int.mul_ediv_add_emod b2 p; omega
          have g0 : 0 < b2 / (p : Int) := by
            by_cases h : 0 < b2 / (p : Int)
            · exact h
            · have := Int.mul_le_mul_of_nonneg_left (show b2 / (p : Int) ≤ 0 by omega) (Int.le_of_lt p0)
              rw [Int.mul_zero] at this
              omega
          have g1 : b2 / (p : Int) < b2 := by
            have h3 : (3 : Int) * (b2 / (p : Int)) ≤ (p : Int) * (b2 / p) := Int.mul_le_mul_of_nonneg_right (by omega) (by omega)
            omega
          refine ⟨_, fun _ _ h => h, ?_⟩
          refine ⟨.int t2, rfl, .int (p : Int), rfl, t2, (p : Int), rfl, rfl, ⟨p0, by omega⟩, ?_⟩
          refine ⟨.int b2, rfl, .int (p : Int), rfl, b2, (p : Int), rfl, rfl, ⟨p0, by omega⟩, ?_⟩
          refine ⟨(b2 / (p : Int)).natAbs, by omega, e3.trans e4, t2 / p, b2 / p, c2 * p, rfl, Int.mul_pos hc2 p0, by rw [Int.mul_assoc, ← d1]; exact hx2, by rw [Int.mul_assoc, ← d2]; exact hy2, g0, fun r hr ⟨u1, u2⟩ => hall2 r hr ⟨?_, ?_⟩, rfl⟩
          · rw [d1]
            exact Int.dvd_trans u1 ⟨_, Int.mul_comm _ _⟩
          · rw [d2]
            exact Int.dvd_trans u2 ⟨_, Int.mul_comm _ _⟩
        · refine ⟨e3.trans e4, t2, b2, c2, _, rfl, hc2, hx2, hy2, hb2, fun r hr => ?_⟩
          rw [tk, List.mem_append, List.mem_singleton] at hr
          rcases hr with h | rfl
          · exact hall2 r h
          · rintro ⟨u1, u2⟩
            rw [decide_eq_true (Int.emod_eq_zero_of_dvd u1), decide_eq_true (Int.emod_eq_zero_of_dvd u2)] at hz
            cases hz
    · obtain ⟨e2, t1, b1, c1, t4, rfl, hc1, hx1, hy1, hb1, hall⟩ := hk
      rw [List.length_map, List.take_length] at hall
      have up : ∀ {r : Nat} {u z : Int}, z = c1 * u → (r : Int) ∣ u → (r : Int) ∣ z := fun {r u z} h hd => by
        rw [h]
        exact Int.dvd_trans hd ⟨_, Int.mul_comm _ _⟩
      have cop : Int.gcd t1 b1 = 1 := gcd_one hb1 fun p hpp d1 d2 => by
        by_cases h : p ≤ 120
        · rcases hpp.listed h with e | e
          · subst e
            have a1 := Int.emod_eq_zero_of_dvd (up hx1 d1)
            have a2 := Int.emod_eq_zero_of_dvd (up hy1 d2)
            have c2 : ((2 : Nat) : Int) = 2 := rfl
            rw [c2] at a1 a2
            omega
          · refine hall p (List.mem_filter.mpr ⟨e, ?_⟩) ⟨d1, d2⟩
            show (decide (x % (p : Int) = 0) && decide (y % (p : Int) = 0)) = true
            rw [decide_eq_true (Int.emod_eq_zero_of_dvd (up hx1 d1)), decide_eq_true (Int.emod_eq_zero_of_dvd (up hy1 d2))]
            rfl
        · exact hp p hpp (by omega) (Int.dvd_trans (up hx1 d1) ⟨_, Int.mul_comm _ _⟩) (Int.dvd_trans (up hy1 d2) ⟨_, Int.mul_comm _ _⟩)
      have e := frc_eq (t := 2 ^ k * x) hb hb1 cop (by
        generalize (2 : Int) ^ k = z at *
        subst hx1 hy1
        grind)
      rw [← e] at q
      refine ⟨.int t1, rfl, .int b1, rfl, by show 2 ≤ sizeLine; decide, fun p hp => q _ p ((e1.trans e2).trans (Ex.new hp)) upd_same⟩
def ArcOk (w : Wd5) (n : Int × Int) : Prop := w = .arc → pord (-1, 0) n ≤ 0 ∧ pord n (1, 0) ≤ 0
def spNeedS (K : PySem.W.Frag) : Sp := fun vs H Q _ => ∃ (w : Wd5) (v : V) (n : Int × Int) (J : Int), vs = [.str w.s, v, .int J] ∧ Gn K H v n 3000 ∧ PlaceOf w.s n ∧ ArcOk w n ∧ 1 ≤ J ∧ J ≤ 60 ∧ ∀ H', Ex H H' → Q .non H'
theorem ok_need_series {f f1 f2 f3 f4 f5 SA OP : Addr} {fd fd1 fd2 fd3 fd4 fd5 : FuncData} {tM : Tok} (T : Top mg) (C : SerC mg K w SA OP) (m_MOST_TERMS : mg "MOST_TERMS" = some (.int 60 tM)) (F : FnP K "need_series" s_need_series f fd) (c_need_word : Cal P w K mg base CX0 1 "need_word" ["thing", "words"] (spNeedW5 K) f1 fd1) (c_need_number : Cal P w K mg base CX0 2 "need_number" ["thing"] (spNeed K) f2 fd2)
    (c_need_whole_within : Cal P w K mg base CX0 3 "need_whole_within" ["thing", "least", "most"] (spNeedW K) f3 fd3) (c_need_place : Cal P w K mg base CX0 4 "need_place" ["word", "number"] (spNeedPl K) f4 fd4) (c_is_between : Cal P w K mg base CX0 2 "is_between" ["number", "least", "most"] (spBetw K) f5 fd5) : FnOk P w K mg base CX0 5 f fd ["word", "number", "many"] (spNeedS K) := by
  have sc := sc_need_series
  have m_SERIES := C.m
  refine ok0 F sc (fun vs H Q E h => ?_) (fun cdv A outer s H vs Q E hr h => ?_)
  · obtain ⟨w, v, n, J, rfl, _⟩ := h
    rfl
  · obtain ⟨w, v, n, J, rfl, gv, po, ao, j1, j2, q⟩ := h
    refine ⟨_, (pss_cons (ps_expr (pe_call c_need_word.ok (hr.mono (by decide)) (by rfl) c_need_word.m c_need_word.kp c_need_word.b .nil pass0 (pa_cons (pv 0) (pa_cons (pe_callTy (call_tupD (by rfl)) (by rfl) T.ty_tuple (by decide +kernel) (pa_cons (pe_glob (v := .ref SA) (by rfl) m_SERIES rfl) pa_nil)) pa_nil))))
    (pss_cons (ps_expr (pe_call c_need_number.ok (hr.mono (by decide)) (by rfl) c_need_number.m c_need_number.kp c_need_number.b .nil pass0 (pa_cons (pv 1) pa_nil)))
    (pss_cons (ps_expr (pe_call c_need_whole_within.ok (hr.mono (by decide)) (by rfl) c_need_whole_within.m c_need_whole_within.kp c_need_whole_within.b .nil pass0 (pa_cons (pv 2) (pa_cons pe_int (pa_cons (pe_glob (v := .int 60) (by rfl) m_MOST_TERMS ⟨_, rfl⟩) pa_nil)))))
    (pss_cons (ps_expr (pe_call c_need_place.ok (hr.mono (by decide)) (by rfl) c_need_place.m c_need_place.kp c_need_place.b .nil pass0 (pa_cons (pv 0) (pa_cons (pv 1) pa_nil))))
    (pss_one (ps_if (PW.pt (pw_and (pt_cmpR op_eq (pv 0) pe_str (nomark _)) (pw_and1 (pt_not (pt_val (pe_call c_is_between.ok (hr.mono (by decide)) (by rfl) c_is_between.m c_is_between.kp c_is_between.b .nil pass0 (pa_cons (pv 1) (pa_cons (pe_tup (pa_cons (pe_un un_neg pe_int) (pa_cons pe_int pa_nil))) (pa_cons (pe_tup (pa_cons pe_int (pa_cons pe_int pa_nil))) pa_nil)))))))))
      (pss_one ps_never) pss_nil)))))), ?_⟩
    refine ⟨.str w.s, rfl, SA, ser5, rfl, C.tab, fun p hp => ?_⟩
    have e1 := Ex.new (o := .tup (ser5.map V.str)) hp
    refine ⟨w, p, rfl, st_of upd_same, ?_⟩
    have gv1 := gv.ex e1
    generalize upd H p (.tup (ser5.map V.str)) = H1 at e1 gv1 ⊢
    refine ⟨v, rfl, v, rfl, gv1.num, fun H2 e2 => ?_⟩
    have gv2 := gv1.ex e2
    refine ⟨.int J, rfl, J, 1, 60, rfl, j1, j2, ?_⟩
    refine ⟨.str w.s, rfl, v, rfl, w.s, v, n, rfl, gv2, po, fun H3 e3 => ?_⟩
    have gv3 := gv2.ex e3
    have f3 := (e1.trans e2).trans e3
    have wa := ws_eq w .arc
    refine ⟨.str w.s, rfl, rfl, _, rfl, ?_⟩
    rw [show decide (V.str w.s = V.str "arc") = decide (w = .arc) from wa]
    by_cases z : w = .arc
    · obtain ⟨o1, o2⟩ := ao z
      rw [decide_eq_true z]
      refine iteT ⟨v, rfl, (evn_lit (K := K) (B := 3000) (m := -1) (e := 0) (σ := [some (.str w.s), some v, some (.int J)]) (H := H3) (ev_un ev_c ru_neg) ev_c (by decide) ⟨by decide +kernel, by decide⟩) H3 (Ex.refl H3) _ fun v1 H4 x1 g1 => ?_⟩
      refine (evn_lit (K := K) (B := 3000) (m := 1) (e := 0) (σ := [some (.str w.s), some v, some (.int J)]) (H := H4) ev_c ev_c (by decide) ⟨by decide +kernel, by decide⟩) H4 (Ex.refl H4) _ fun v2 H5 x2 g2 => ?_
      refine ⟨v, v1, v2, n, (-1, 0), (1, 0), rfl, (gv3.ex x1).ex x2, g1.ex x2, g2, fun H6 x3 => ?_⟩
      rw [decide_eq_true o1, decide_eq_true o2]
      exact ⟨true, rfl, iteF (q H6 (f3.trans ((x1.trans x2).trans x3)))⟩
    · rw [decide_eq_false z]
      exact iteF (iteF (q H3 f3))
def spSer (K : PySem.W.Frag) : Sp := fun vs H Q _ => ∃ (w : Wd5) (v : V) (n : Int × Int) (j : Nat), vs = [.str w.s, v, .int ((j : Int) + 1)] ∧ Gn K H v n 3000 ∧ PlaceOf w.s n ∧ ArcOk w n ∧ Sz w n (j + 1) ∧ NewT H Q [.int (due w (ab w n).1 (ab w n).2 (j + 1)).1, .int (due w (ab w n).1 (ab w n).2 (j + 1)).2]
theorem place_log {w : Wd5} {n : Int × Int} (po : PlaceOf w.s n) : w = .log → 0 < n.1 := fun z => po.2.1 (by rw [z]; rfl)
theorem ok_series_sum {f f1 f2 f3 : Addr} {fd fd1 fd2 fd3 : FuncData} (T : Top mg) (F : FnP K "series_sum" s_series_sum f fd) (c_need_series : Cal P w K mg base CX0 5 "need_series" ["word", "number", "many"] (spNeedS K) f1 fd1) (c_sum_of_terms : Cal P w K mg base CX0 3 "sum_of_terms" ["word", "number", "many"] (spSumT K) f2 fd2) (c_lowest : Cal P w K mg base CX0 2 "lowest" ["top", "bottom"] spLow f3 fd3) : FnOk P w K mg base CX0 6 f fd ["word", "number", "many"] (spSer K) := by
  have sc := sc_series_sum
  refine ok0 F sc (fun vs H Q E h => ?_) (fun cdv A outer s H vs Q E hr h => ?_)
  · obtain ⟨w, v, n, j, rfl, _⟩ := h
    rfl
  · obtain ⟨w, v, n, j, rfl, gv, po, ao, sz, q⟩ := h
    refine ⟨_, (pss_cons (ps_expr (pe_call c_need_series.ok (hr.mono (by decide)) (by rfl) c_need_series.m c_need_series.kp c_need_series.b .nil pass0 (pa_cons (pv 0) (pa_cons (pv 1) (pa_cons (pv 2) pa_nil)))))
    (pss_cons (ps_asg (pe_call c_sum_of_terms.ok (hr.mono (by decide)) (by rfl) c_sum_of_terms.m c_sum_of_terms.kp c_sum_of_terms.b .nil pass0 (pa_cons (pv 0) (pa_cons (pv 1) (pa_cons (pv 2) pa_nil)))) (pg_tup rfl (pgs_cons (pg_name (i := 3) sc.nd rfl (.inl rfl)) (pgs_cons (pg_name (i := 4) sc.nd rfl (.inl rfl)) pgs_nil))))
    (pss_one (ps_ret (pe_call c_lowest.ok (hr.mono (by decide)) (by rfl) c_lowest.m c_lowest.kp c_lowest.b .nil pass0 (pa_cons (pv 3) (pa_cons (pv 4) pa_nil))))))), ?_⟩
    have h0 := place_log po
    have j60 := sz.j60
    obtain ⟨D0, fr⟩ := sum_frc h0 j
    have cop := sum_cop (w := w) (n := n) (j := j) (by omega)
    rw [← fr] at q
    refine ⟨.str w.s, rfl, v, rfl, .int ((j : Int) + 1), rfl, w, v, n, (j : Int) + 1, rfl, gv, po, ao, by omega, by omega, fun H1 e1 => ?_⟩
    refine ⟨.str w.s, rfl, v, rfl, .int ((j : Int) + 1), rfl, w, v, n, j, rfl, (gv.ex e1).at_, h0, sz, fun H2 p e2 hp => ?_⟩
    generalize Tj w (argX w n) (argY w n) (argQ w n) j = t at *
    generalize Bj w (argY w n) j * 2 ^ (argQ w n * kk w j) = b at *
    refine ⟨p, _, rfl, st_of hp, rfl, .int t, _, rfl, .int b, [], rfl, rfl, ?_⟩
    exact ⟨.int t, rfl, .int b, rfl, t, b, rfl, D0, cop, fun H3 p3 e3 hp3 => q H3 p3 ((e1.trans e2).trans e3) hp3⟩
theorem ok_law_mixed {f : Addr} {fd : FuncData} (T : Top mg) (F : FnP K "_law_mixed" s_law_mixed f fd) : FnOk P w K mg base CX0 1 f fd ["_law_cell_here", "_law_k"] spMix := by
  have sc := sc_law_mixed
  refine ok0 F sc (fun vs H Q E h => ?_) (fun cdv A outer s H vs Q E hr h => ?_)
  · obtain ⟨a, k, rfl, _⟩ := h
    rfl
  · obtain ⟨a, k, rfl, q⟩ := h
    refine ⟨_, (pss_cons (ps_set (i := 2) sc.nd rfl (.inl rfl) (pe_op op_mod (pe_op op_add (pe_op op_add (pe_op op_mul (pe_op op_mod (pv 0) pe_int) pe_int) (pe_op op_mul (pv 1) pe_int)) pe_int) pe_int))
    (pss_cons (ps_set (i := 2) sc.nd rfl (.inl rfl) (pe_op op_mod (pe_op op_mul (pv 2) (pv 2)) pe_int))
    (pss_one (ps_ret (pe_op op_mod (pe_op op_mul (pv 2) (pe_op op_add (pv 2) pe_int)) pe_int))))), ?_⟩
    have b1 : ∀ z : Int, 0 ≤ z % 2147483629 ∧ z % 2147483629 < 2147483629 := fun z => ⟨Int.emod_nonneg z (by decide), Int.emod_lt_of_pos z (by decide)⟩
    have b2 : ∀ z : Int, 0 ≤ z % 2147483587 ∧ z % 2147483587 < 2147483587 := fun z => ⟨Int.emod_nonneg z (by decide), Int.emod_lt_of_pos z (by decide)⟩
    refine ⟨.int a, rfl, a, 2147483647, rfl, rfl, by show (0 : Int) < _; decide, _, 48271, rfl, rfl, .inr ⟨by decide, by decide⟩, .int k, rfl, k, 69621, rfl, rfl, .inr ⟨by decide, by decide⟩, _, _, rfl, rfl, _, 1048583, rfl, rfl, _, 2147483629, rfl, rfl, by show (0 : Int) < _; decide, ?_⟩
    refine ⟨_, rfl, _, rfl, _, _, rfl, rfl, .inl ⟨?_, ?_⟩, _, 2147483587, rfl, rfl, by show (0 : Int) < _; decide, ?_⟩
    · have := b1 (a % 2147483647 * 48271 + k * 69621 + 1048583)
      omega
    · have := b1 (a % 2147483647 * 48271 + k * 69621 + 1048583)
      omega
    · refine ⟨_, rfl, _, rfl, _, 2, rfl, rfl, _, _, rfl, rfl, .inl ⟨?_, ?_⟩, _, 2147483579, rfl, rfl, by show (0 : Int) < _; decide, q _⟩
      · have := b2 ((a % 2147483647 * 48271 + k * 69621 + 1048583) % 2147483629 * ((a % 2147483647 * 48271 + k * 69621 + 1048583) % 2147483629))
        omega
      · have := b2 ((a % 2147483647 * 48271 + k * 69621 + 1048583) % 2147483629 * ((a % 2147483647 * 48271 + k * 69621 + 1048583) % 2147483629))
        omega
theorem ok_law_cell {f f1 : Addr} {fd fd1 : FuncData} (T : Top mg) (F : FnP K "_law_cell" s_law_cell f fd) (c_law_mixed : Cal P w K mg base CX0 1 "_law_mixed" ["_law_cell_here", "_law_k"] spMix f1 fd1) : FnOk P w K mg base CX0 2 f fd ["_law_script", "_law_k"] (spCel K) := by
  have sc := sc_law_cell
  refine ok0 F sc (fun vs H Q E h => ?_) (fun cdv A outer s H vs Q E hr h => ?_)
  · obtain ⟨a, ns, k, rfl, _⟩ := h
    rfl
  · obtain ⟨a, ns, k, rfl, hS, h0, h1, q⟩ := h
    refine ⟨_, (pss_cons (ps_set (i := 2) sc.nd rfl (.inl rfl) pe_int)
    (pss_cut (ps_if (pt_cmpR op_lt (pv 1) (pe_callB call_len (by rfl) T.len (by decide +kernel) (pa_cons (pv 0) pa_nil)) (nomark _))
      (pss_one (ps_set (i := 2) sc.nd rfl (.inl rfl) (pe_ix ix_list (pv 0) (pv 1) (fun _ _ => rfl)))) pss_nil)
    (pss_cons (ps_if (pt_cmpR op_ge (pv 2) (pe_op op_pow pe_int pe_int) (nomark _))
      (pss_one (ps_ret (pe_op op_mod (pe_op op_sub (pv 2) (pe_op op_pow pe_int pe_int)) (pe_op op_mulX (pe_op op_mulX (pe_op op_mulX (pe_op op_pow pe_int pe_int) (pe_op op_pow pe_int pe_int)) (pe_op op_pow pe_int pe_int)) (pe_op op_pow pe_int pe_int))))) pss_nil)
    (pss_cons (ps_set (i := 3) sc.nd rfl (.inl rfl) pe_int)
    (pss_cons (ps_for PassesOwn.never rfl (pi_range1 (by rfl) T.range (pa_cons pe_int pa_nil)) (pg_name (i := 4) sc.nd rfl (.inl rfl))
      (pss_one (ps_set (i := 3) sc.nd rfl (.inl rfl) (pe_op op_add (pe_op op_mul (pv 3) pe_int) (pe_call c_law_mixed.ok (hr.mono (by decide)) (by rfl) c_law_mixed.m c_law_mixed.kp c_law_mixed.b .nil pass0 (pa_cons (pv 2) (pa_cons (pe_op op_add (pe_op op_add (pe_op op_mul pe_int (pv 1)) (pe_op op_mul pe_int (pv 4))) (pe_op op_mul (pv 4) (pv 4))) pa_nil)))))))
    (pss_one (ps_ret (pv 3)))))))), ?_⟩
    refine ⟨fun σ' H' => H' = H ∧ ∃ c : Int, σ' = [some (.ref a), some (.int k), some (.int c), none, none], ?_, fun σ' H' hm => ?_⟩
    · refine ⟨.int k, rfl, .ref a, rfl, _, (ns.map V.int).length, rfl, .inl ⟨_, hS, rfl⟩, k, _, rfl, rfl, _, rfl, ite2 (fun hk => ?_) (fun hk => ?_)⟩
      · have hk2 : k < ((ns.map V.int).length : Int) := of_decide_eq_true hk
        rw [List.length_map] at hk2
        obtain ⟨j, rfl⟩ : ∃ j : Nat, k = (j : Int) := ⟨k.toNat, by omega⟩
        have hj : j < ns.length := by omega
        have ha : atI (ns.map V.int) ((j : Nat) : Int) = some (.int ns[j]) := atI_nat (by rw [List.getElem?_map, List.getElem?_eq_getElem hj]; rfl)
        exact ⟨.ref a, rfl, .int (j : Nat), rfl, a, _, _, _, rfl, rfl, hS, ha, rfl, _, rfl⟩
      · exact ⟨rfl, 0, rfl⟩
    · obtain ⟨rfl, c, rfl⟩ := hm
      refine ⟨.int c, rfl, 10, 18, rfl, rfl, ⟨by decide, by decide, by decide⟩, c, _, rfl, rfl, _, rfl, ite2 (fun _ => ?_) (fun _ => ?_)⟩
      · refine ⟨.int c, rfl, 10, 18, rfl, rfl, ⟨by decide, by decide, by decide⟩, c, _, rfl, rfl, 10, 60, rfl, rfl, ⟨by decide, by decide, by decide⟩, 10, 60, rfl, rfl, ⟨by decide, by decide, by decide⟩, _, _, rfl, rfl, by show CMulX _ _; unfold CMulX; decide +kernel,
          10, 60, rfl, rfl, ⟨by decide, by decide, by decide⟩, _, _, rfl, rfl, by show CMulX _ _; unfold CMulX; decide +kernel, 10, 60, rfl, rfl, ⟨by decide, by decide, by decide⟩, _, _, rfl, rfl, by show CMulX _ _; unfold CMulX; decide +kernel, _, _, rfl, rfl, by show (0 : Int) < _; decide +kernel, q _⟩
      · refine ⟨24, rfl, by decide, by decide, for_range (lo := 0) (n := 24) (fun _ σ' H'' => H'' = H' ∧ ∃ z t, σ' = [some (.ref a), some (.int k), some (.int c), some (.int z), t]) ⟨rfl, 0, none, rfl⟩ (fun i σ' H'' hi hp => ?_) (fun σ' H'' hp => ?_)⟩
        · obtain ⟨rfl, z, t, rfl⟩ := hp
          refine ⟨.int z, rfl, z, 2147483579, rfl, rfl, .inr ⟨by decide, by decide⟩, .int c, rfl, .int k, rfl, 7, k, rfl, rfl, .inl ⟨by decide, by decide⟩, .int (0 + (i : Int)), rfl, 100, _, rfl, rfl, .inl ⟨by decide, by decide⟩, _, _, rfl, rfl, .int (0 + (i : Int)), rfl, .int (0 + (i : Int)), rfl, _, _, rfl, rfl, .inl ⟨by omega, by omega⟩, _, _, rfl, rfl, c, _, rfl, fun y => ⟨_, _, rfl, rfl, rfl, _, _, rfl⟩⟩
        · obtain ⟨rfl, z, t, rfl⟩ := hp
          exact ⟨.int z, rfl, q z⟩
theorem ok_law_take {f : Addr} {fd : FuncData} (T : Top mg) (F : FnP K "_law_take" s_law_take f fd) : FnOk P w K mg base CX0 1 f fd ["_law_pile", "_law_size"] spTake := by
  have sc := sc_law_take
  refine ok0 F sc (fun vs H Q E h => ?_) (fun cdv A outer s H vs Q E hr h => ?_)
  · obtain ⟨p, x, n, rfl, _⟩ := h
    rfl
  · obtain ⟨p, x, n, rfl, hp, h0, h1, q⟩ := h
    refine ⟨_, (pss_cons (ps_set (i := 2) sc.nd rfl (.inl rfl) (pe_op op_mod (pe_ix ix_list (pv 0) pe_int (fun _ _ => rfl)) (pv 1)))
    (pss_cons (ps_asg (pe_op op_fdivW (pe_ix ix_list (pv 0) pe_int (fun _ _ => rfl)) (pv 1)) (pg_sub (pv 0) pe_int set_list))
    (pss_one (ps_ret (pv 2))))), ?_⟩
    refine ⟨.ref p, rfl, p, [.int x], 0, .int x, rfl, rfl, sq_of hp, rfl, .int n, rfl, x, n, rfl, rfl, h0, ?_⟩
    refine ⟨.ref p, rfl, p, [.int x], 0, .int x, rfl, rfl, sq_of hp, rfl, .int n, rfl, x, n, rfl, rfl, ⟨h0, h1⟩, .ref p, rfl, p, [.int x], 0, 0, rfl, rfl, hp, rfl, ?_⟩
    exact ⟨_, rfl, q⟩
theorem ok_law_odd {f : Addr} {fd : FuncData} (T : Top mg) (F : FnP K "_law_odd" s_law_odd f fd) : FnOk P w K mg base CX0 1 f fd ["_law_m", "_law_e"] spNof := by
  have sc := sc_law_odd
  refine ok0 F sc (fun vs H Q E h => ?_) (fun cdv A outer s H vs Q E hr h => ?_)
  · obtain ⟨m, e, rfl, _⟩ := h
    rfl
  · obtain ⟨m, e, rfl, q⟩ := h
    refine ⟨_, (pss_cons (ps_if (pt_cmpR op_eq (pv 0) pe_int (nomark _))
      (pss_one (ps_ret (pe_tup (pa_cons pe_int (pa_cons pe_int pa_nil))))) pss_nil)
    (pss_cons (ps_while PassesOwn.never (pt_cmpR op_eq (pe_op op_mod (pv 0) pe_int) pe_int (nomark _))
      (pss_cons (ps_set (i := 0) sc.nd rfl (.inl rfl) (pe_op op_fdivW (pv 0) pe_int))
      (pss_one (ps_set (i := 1) sc.nd rfl (.inl rfl) (pe_op op_add (pv 1) pe_int)))))
    (pss_one (ps_ret (pe_tup (pa_cons (pv 0) (pa_cons (pv 1) pa_nil))))))), ?_⟩
    refine ⟨.int m, rfl, rfl, _, rfl, ite2 (fun h0 => ?_) (fun h0 => ?_)⟩
    · have e0 : m = 0 := V.int.inj (of_decide_eq_true h0)
      subst e0
      exact ⟨by show 2 ≤ sizeLine; decide, fun p hp => q _ p (Ex.new hp) hp upd_same⟩
    · have e0 : m ≠ 0 := fun z => h0 (decide_eq_true (congrArg V.int z))
      refine q_while (fun n σ' H' => ∃ (m' e' : Int) (j : Nat), σ' = [some (.int m'), some (.int e')] ∧ Ex H H' ∧ m' ≠ 0 ∧ m = 2 ^ j * m' ∧ e' = e + j ∧ n = m'.natAbs) m.natAbs ⟨m, e, 0, rfl, Ex.refl H, e0, by rw [Int.pow_zero, Int.one_mul], by omega, rfl⟩ ?_
      rintro n σ' H' ⟨m', e', j, rfl, ex, hm, hj, he, hn⟩
      refine ⟨_, et_test (ev_op (ev_op (ev_var rfl) ev_c (rv_I (by decide))) ev_c (rv_eq rfl)), fun hb H1 e1 => ?_, fun hb H1 e1 => ?_⟩
      · have h2 : m' % 2 = 0 := V.int.inj (of_decide_eq_true hb)
        refine ⟨_, fun _ _ h => h, ?_⟩
        refine ⟨.int m', rfl, m', 2, rfl, rfl, ⟨by decide, by decide⟩, .int e', rfl, e', 1, rfl, rfl, ?_⟩
        refine ⟨(m' / 2).natAbs, by omega, m' / 2, e' + 1, j + 1, rfl, ex.trans e1, by omega, ?_, by omega, rfl⟩
        rw [Int.pow_succ, Int.mul_assoc, show 2 * (m' / 2) = m' by omega]
        exact hj
      · have h2 : ¬ m' % 2 = 0 := fun z => by
          rw [decide_eq_true (congrArg V.int z)] at hb
          cases hb
        have hm2 : m' = 2 * (m' / 2) + 1 := by omega
        have en : nrm m e = (m', e') := by
          have h3 : m = 2 ^ j * (2 * (m' / 2) + 1) := by rw [← hm2]; exact hj
          rw [nrm_of e h3, ← hm2, he]
        refine ⟨.int m', rfl, .int e', rfl, by show 2 ≤ sizeLine; decide, fun p hp => q _ p ((ex.trans e1).trans (Ex.new hp)) (fresh_back (ex.trans e1) hp) ?_⟩
        rw [upd_same, en]
theorem gcd_step (a b : Int) : Int.gcd b (a % b) = Int.gcd a b := by
  have e := Int.emod_add_mul_ediv a b
  have h := Int.gcd_add_mul_left_left (m := b) (n := a % b) (k := a / b)
  rw [e] at h
  rw [h, Int.gcd_comm]
def spCom : Sp := fun vs H Q _ => ∃ t b : Int, vs = [.int t, .int b] ∧ 0 < b ∧ ∀ H', Ex H H' → Q (.int (Int.gcd t b : Int)) H'
theorem ok_law_common {f : Addr} {fd : FuncData} (T : Top mg) (F : FnP K "_law_common" s_law_common f fd) : FnOk P w K mg base CX0 1 f fd ["_law_one", "_law_other"] spCom := by
  have sc := sc_law_common
  refine ok0 F sc (fun vs H Q E h => ?_) (fun cdv A outer s H vs Q E hr h => ?_)
  · obtain ⟨t, b, rfl, _⟩ := h
    rfl
  · obtain ⟨t, b, rfl, hb, q⟩ := h
    refine ⟨_, (pss_cons (ps_while PassesOwn.never (pt_cmpR op_ne (pv 1) pe_int (nomark _))
      (pss_one (ps_par (by rfl) sc.nd (i := 0) (j := 1) rfl rfl (by decide) rfl rfl (pa_cons (pv 1) (pa_cons (pe_op op_mod (pv 0) (pv 1)) pa_nil)) (by rfl))))
    (pss_one (ps_ret (pe_callB call_abs (by rfl) T.abs (by decide +kernel) (pa_cons (pv 0) pa_nil))))), ?_⟩
    refine q_while (fun n σ' H' => ∃ (u v : Int), σ' = [some (.int u), some (.int v)] ∧ Ex H H' ∧ 0 ≤ v ∧ Int.gcd u v = Int.gcd t b ∧ n = v.toNat) b.toNat ⟨t, b, rfl, Ex.refl H, by omega, rfl, rfl⟩ ?_
    rintro n σ' H' ⟨u, v, rfl, e1, hv, hg, hn⟩
    refine ⟨_, et_test (ev_op (ev_var (i := 1) rfl) ev_c (rv_ne rfl)), fun hz H2 e2 => ?_, fun hz H2 e2 => ?_⟩
    · have hz : v ≠ 0 := fun y => by
        rw [decV, decide_eq_true y] at hz
        cases hz
      have v0 : 0 < v := by omega
      have m1 := Int.emod_nonneg u hz
      have m2 := Int.emod_lt_of_pos u v0
      refine ⟨_, fun _ _ h => h, ?_⟩
      refine ⟨.int v, rfl, .int u, rfl, .int v, rfl, u, v, rfl, rfl, v0, _, _, rfl, (u % v).toNat, by omega, v, u % v, rfl, e1.trans e2, m1, by rw [gcd_step]; exact hg, rfl⟩
    · have hz : v = 0 := by
        refine Classical.byContradiction fun y => ?_
        rw [decV, decide_eq_false y] at hz
        cases hz
      have e : (if u < 0 then -u else u) = ((Int.gcd t b : Nat) : Int) := by
        rw [← hg, hz, Int.gcd_zero_right]
        by_cases y : u < 0
        · rw [if_pos y]; omega
        · rw [if_neg y]; omega
      refine ⟨.int u, rfl, u, rfl, ?_⟩
      rw [e]
      exact q H2 (e1.trans e2)
def spFrc : Sp := fun vs H Q _ => ∃ t b : Int, vs = [.int t, .int b] ∧ 0 < b ∧ b.natAbs ≤ 2 ^ 8000 ∧ NewT H Q [.int (frc t b).1, .int (frc t b).2]
theorem ok_law_frac {f f1 : Addr} {fd fd1 : FuncData} (T : Top mg) (F : FnP K "_law_frac" s_law_frac f fd) (c_law_common : Cal P w K mg base CX0 1 "_law_common" ["_law_one", "_law_other"] spCom f1 fd1) : FnOk P w K mg base CX0 2 f fd ["_law_top", "_law_bottom"] spFrc := by
  have sc := sc_law_frac
  refine ok0 F sc (fun vs H Q E h => ?_) (fun cdv A outer s H vs Q E hr h => ?_)
  · obtain ⟨t, b, rfl, _⟩ := h
    rfl
  · obtain ⟨t, b, rfl, hb, hB, q⟩ := h
    refine ⟨_, (pss_cons (ps_set (i := 2) sc.nd rfl (.inl rfl) (pe_call c_law_common.ok (hr.mono (by decide)) (by rfl) c_law_common.m c_law_common.kp c_law_common.b .nil pass0 (pa_cons (pv 0) (pa_cons (pv 1) pa_nil))))
    (pss_cons (ps_if (pt_cmpR op_lt (pv 1) pe_int (nomark _))
      (pss_one (ps_set (i := 2) sc.nd rfl (.inl rfl) (pe_op op_sub pe_int (pv 2)))) pss_nil)
    (pss_one (ps_ret (pe_tup (pa_cons (pe_op op_fdivW (pv 0) (pv 2)) (pa_cons (pe_op op_fdivW (pv 1) (pv 2)) pa_nil))))))), ?_⟩
    refine ⟨.int t, rfl, .int b, rfl, t, b, rfl, hb, fun H1 e1 => ?_⟩
    have g0 : 0 < Int.gcd t b := Int.gcd_pos_of_ne_zero_right t (by omega)
    have gl : ((Int.gcd t b : Nat) : Int).natAbs.log2 < 9000 := by
      refine PySem.Flt.log2_lt_of (by decide) ?_
      have h1 : Int.gcd t b ≤ b.natAbs := Nat.le_of_dvd (by omega) (Int.gcd_eq_natAbs_gcd_natAbs t b ▸ Nat.gcd_dvd_right _ _)
      rw [Int.natAbs_natCast]
      exact Nat.lt_of_le_of_lt (Nat.le_trans h1 hB) (Nat.pow_lt_pow_right (by decide) (by decide))
    unfold frc at q
    generalize Int.gcd t b = g at *
    have cd : ∀ i : Int, CDivW i (g : Int) := fun i => ⟨by omega, gl⟩
    refine ⟨.int b, rfl, b, 0, rfl, rfl, _, rfl, ite2 (fun z => absurd (of_decide_eq_true z) (by omega)) (fun _ => ?_)⟩
    exact ⟨.int t, rfl, .int (g : Int), rfl, t, g, rfl, rfl, cd t, .int b, rfl, .int (g : Int), rfl, b, g, rfl, rfl, cd b, by show 2 ≤ sizeLine; decide, fun p hp => q _ p (e1.trans (Ex.new hp)) upd_same⟩
def spPlu (K : PySem.W.Frag) : Sp := fun vs H Q _ => ∃ u v o t, vs = [u, v] ∧ NumAt K H u o ∧ NumAt K H v t ∧ 0 < o.2 ∧ 0 < t.2 ∧ o.1.natAbs ≤ 2 ^ 20000 ∧ t.1.natAbs ≤ 2 ^ 20000 ∧ o.2.natAbs ≤ 2 ^ 3853 ∧ t.2.natAbs ≤ 2 ^ 2140 ∧ NewT H Q [.int (fplus o t).1, .int (fplus o t).2]
theorem ok_law_plus {f f1 : Addr} {fd fd1 : FuncData} (T : Top mg) (F : FnP K "_law_plus" s_law_plus f fd) (c_law_frac : Cal P w K mg base CX0 2 "_law_frac" ["_law_top", "_law_bottom"] spFrc f1 fd1) : FnOk P w K mg base CX0 3 f fd ["_law_one", "_law_other"] (spPlu K) := by
  have sc := sc_law_plus
  refine ok0 F sc (fun vs H Q E h => ?_) (fun cdv A outer s H vs Q E hr h => ?_)
  · obtain ⟨u, v, o, t, rfl, _⟩ := h
    rfl
  · obtain ⟨u, v, ⟨o1, o2⟩, ⟨t1, t2⟩, rfl, ⟨r, rfl, hr1⟩, ⟨r2, rfl, hr2⟩, h1, h2, b1, b2, b3, b4, q⟩ := h
    refine ⟨_, (pss_one (ps_ret (pe_call c_law_frac.ok (hr.mono (by decide)) (by rfl) c_law_frac.m c_law_frac.kp c_law_frac.b .nil pass0 (pa_cons (pe_op op_add (pe_op op_mulX (pe_ix ix_tup (pv 0) pe_int (fun _ _ => rfl)) (pe_ix ix_tup (pv 1) pe_int (fun _ _ => rfl))) (pe_op op_mulX (pe_ix ix_tup (pv 1) pe_int (fun _ _ => rfl)) (pe_ix ix_tup (pv 0) pe_int (fun _ _ => rfl)))) (pa_cons (pe_op op_mulX (pe_ix ix_tup (pv 0) pe_int (fun _ _ => rfl)) (pe_ix ix_tup (pv 1) pe_int (fun _ _ => rfl))) pa_nil))))), ?_⟩
    dsimp only at *
    refine ⟨.ref r, rfl, r, _, 0, .int o1, rfl, rfl, hr1, rfl, .ref r2, rfl, r2, _, 1, .int t2, rfl, rfl, hr2, rfl, o1, t2, rfl, rfl, mx b1 b4 (by decide), ?_⟩
    refine ⟨.ref r2, rfl, r2, _, 0, .int t1, rfl, rfl, hr2, rfl, .ref r, rfl, r, _, 1, .int o2, rfl, rfl, hr1, rfl, t1, o2, rfl, rfl, mx b2 b3 (by decide), _, _, rfl, rfl, ?_⟩
    refine ⟨.ref r, rfl, r, _, 1, .int o2, rfl, rfl, hr1, rfl, .ref r2, rfl, r2, _, 1, .int t2, rfl, rfl, hr2, rfl, o2, t2, rfl, rfl, mx b3 b4 (by decide), ?_⟩
    exact ⟨_, _, rfl, Int.mul_pos h1 h2, bb_up (bb_mul b3 b4) (by decide), q⟩
def spPart5 (K : PySem.W.Frag) : Sp := fun vs H Q _ => ∃ v n, vs = [v] ∧ NumAt K H v n ∧ n.1.natAbs < 2 ^ 100 ∧ n.2.natAbs ≤ 100 ∧ NewT H Q [.int (sA n), .int (sB n)]
theorem ok_law_part {f : Addr} {fd : FuncData} (T : Top mg) (F : FnP K "_law_part" s_law_part f fd) : FnOk P w K mg base CX0 1 f fd ["_law_number_own"] (spPart5 K) := by
  have sc := sc_law_part
  refine ok0 F sc (fun vs H Q E h => ?_) (fun cdv A outer s H vs Q E hr h => ?_)
  · obtain ⟨v, n, rfl, _⟩ := h
    rfl
  · obtain ⟨v, n, rfl, ⟨r, rfl, hr0⟩, b1, b2, q⟩ := h
    refine ⟨_, (pss_cons (ps_if (pt_cmpR op_ge (pe_ix ix_tup (pv 0) pe_int (fun _ _ => rfl)) pe_int (nomark _))
      (pss_one (ps_ret (pe_tup (pa_cons (pe_op op_shlW (pe_ix ix_tup (pv 0) pe_int (fun _ _ => rfl)) (pe_ix ix_tup (pv 0) pe_int (fun _ _ => rfl))) (pa_cons pe_int pa_nil))))) pss_nil)
    (pss_one (ps_ret (pe_tup (pa_cons (pe_ix ix_tup (pv 0) pe_int (fun _ _ => rfl)) (pa_cons (pe_op op_shlW pe_int (pe_op op_sub pe_int (pe_ix ix_tup (pv 0) pe_int (fun _ _ => rfl)))) pa_nil)))))), ?_⟩
    unfold sA sB at q
    refine ⟨.ref r, rfl, r, _, 1, .int n.2, rfl, rfl, hr0, rfl, n.2, 0, rfl, rfl, _, rfl, ite2 (fun z => ?_) (fun z => ?_)⟩
    · have z : 0 ≤ n.2 := of_decide_eq_true z
      have c1 : CShl n.1 n.2 := by
        rw [show n.2 = (n.2.toNat : Int) by omega]
        exact shl_ok b1 (by omega)
      rw [show (-n.2).toNat = 0 by omega] at q
      exact ⟨.ref r, rfl, r, _, 0, .int n.1, rfl, rfl, hr0, rfl, .ref r, rfl, r, _, 1, .int n.2, rfl, rfl, hr0, rfl, n.1, n.2, rfl, rfl, c1, by show 2 ≤ sizeLine; decide, fun p hp => q _ p (Ex.new hp) upd_same⟩
    · have z : ¬ 0 ≤ n.2 := fun y => z (decide_eq_true y)
      have c1 : CShl 1 (0 - n.2) := by
        rw [show 0 - n.2 = ((-n.2).toNat : Int) by omega]
        exact shl_ok (i := 1) (n := 1) (by decide) (by omega)
      rw [show n.2.toNat = 0 by omega, Int.pow_zero, Int.mul_one] at q
      refine ⟨.ref r, rfl, r, _, 0, .int n.1, rfl, rfl, hr0, rfl, .ref r, rfl, r, _, 1, .int n.2, rfl, rfl, hr0, rfl, 0, n.2, rfl, rfl, 1, _, rfl, rfl, c1, by show 2 ≤ sizeLine; decide, fun p hp => q _ p (Ex.new hp) ?_⟩
      have e : (1 : Int) * 2 ^ (0 - n.2).toNat = 2 ^ (-n.2).toNat := by rw [Int.one_mul, Int.zero_sub]
      rw [← e]
      exact upd_same
def fF (w : Wd5) (i : Nat) : Int := if w.odd = true then 1 else fct i
theorem fF_bd (w : Wd5) {i : Nat} (h : i ≤ 120) : (fF w i).natAbs ≤ 2 ^ 840 := by
  unfold fF
  by_cases ho : w.odd = true
  · rw [if_pos ho]
    exact Nat.pow_pos (by decide)
  · rw [if_neg ho]
    exact bb_up (fct_bd i h) (by omega)
theorem in_esc (w : Wd5) : inV (.str w.s) [.str "exp", .str "sin", .str "cos"] = !w.odd := by cases w <;> decide +kernel
theorem in_sca (w : Wd5) : inV (.str w.s) [.str "sin", .str "cos", .str "arc"] = decide (w.tn = -1) := by cases w <;> decide +kernel
theorem tn_pow (w : Wd5) (j : Nat) : w.tn ^ j = if w.tn = -1 ∧ (j : Int) % 2 = 1 then -1 else 1 := by
  have h : w.tn = -1 ∨ w.tn = 1 := by cases w <;> simp [Wd5.tn]
  rcases h with e | e
  · rw [e]
    induction j with
    | zero => rfl
    | succ j ih =>
      rw [Int.pow_succ, ih]
      by_cases z : (j : Int) % 2 = 1
      · rw [if_pos ⟨rfl, z⟩, if_neg (fun y => by have := y.2; omega)]
        rfl
      · rw [if_neg (fun y => z y.2), if_pos ⟨rfl, by omega⟩]
        rfl
  · rw [e, Int.one_pow, if_neg (fun y => absurd y.1 (by decide))]
def spTerm (K : PySem.W.Frag) : Sp := fun vs H Q _ => ∃ (w : Wd5) (v : V) (n : Int × Int) (j : Nat), vs = [.str w.s, v, .int (j : Int)] ∧ NumAt K H v n ∧ (w = .log → 0 < n.1) ∧ Sz w n (j + 1) ∧ NewT H Q [.int (frc (trm w (ab w n).1 (ab w n).2 j).1 (trm w (ab w n).1 (ab w n).2 j).2).1, .int (frc (trm w (ab w n).1 (ab w n).2 j).1 (trm w (ab w n).1 (ab w n).2 j).2).2]
theorem ok_law_term {f f1 f2 : Addr} {fd fd1 fd2 : FuncData} (T : Top mg) (F : FnP K "_law_term" s_law_term f fd) (c_law_part : Cal P w K mg base CX0 1 "_law_part" ["_law_number_own"] (spPart5 K) f1 fd1) (c_law_frac : Cal P w K mg base CX0 2 "_law_frac" ["_law_top", "_law_bottom"] spFrc f2 fd2) : FnOk P w K mg base CX0 3 f fd ["_law_word_own", "_law_number_own", "_law_k"] (spTerm K) := by
  have sc := sc_law_term
  refine ok0 F sc (fun vs H Q E h => ?_) (fun cdv A outer s H vs Q E hr h => ?_)
  · obtain ⟨w, v, n, j, rfl, _⟩ := h
    rfl
  · obtain ⟨w, v, n, j, rfl, hv, h0, sz, q⟩ := h
    refine ⟨_, (pss_cons (ps_asg (pe_call c_law_part.ok (hr.mono (by decide)) (by rfl) c_law_part.m c_law_part.kp c_law_part.b .nil pass0 (pa_cons (pv 1) pa_nil)) (pg_tup rfl (pgs_cons (pg_name (i := 3) sc.nd rfl (.inl rfl)) (pgs_cons (pg_name (i := 4) sc.nd rfl (.inl rfl)) pgs_nil))))
    (pss_cut (ps_if (pt_cmpR op_eq (pv 0) pe_str (nomark _))
      (pss_one (ps_asg (pe_call c_law_frac.ok (hr.mono (by decide)) (by rfl) c_law_frac.m c_law_frac.kp c_law_frac.b .nil pass0 (pa_cons (pe_op op_sub (pv 3) (pv 4)) (pa_cons (pe_op op_add (pv 3) (pv 4)) pa_nil))) (pg_tup rfl (pgs_cons (pg_name (i := 3) sc.nd rfl (.inl rfl)) (pgs_cons (pg_name (i := 4) sc.nd rfl (.inl rfl)) pgs_nil))))) pss_nil)
    (pss_cons (ps_set (i := 5) sc.nd rfl (.inl rfl) (pe_ix ix_list (pe_lst (pa_cons (pe_op op_add (pe_op op_mulX pe_int (pv 2)) pe_int) (pa_cons (pv 2) pa_nil))) (pe_callTy call_int1 (by rfl) T.ty_int (by decide +kernel) (pa_cons (pe_cmpR op_eq (pv 0) pe_str (nomark _)) pa_nil)) (fun _ _ => rfl)))
    (pss_cons (ps_set (i := 5) sc.nd rfl (.inl rfl) (pe_op op_sub (pv 5) (pe_callTy call_int1 (by rfl) T.ty_int (by decide +kernel) (pa_cons (pe_cmpR op_eq (pv 0) pe_str (nomark _)) pa_nil))))
    (pss_cons (ps_asg (pe_tup (pa_cons pe_int (pa_cons pe_int pa_nil))) (pg_tup rfl (pgs_cons (pg_name (i := 6) sc.nd rfl (.inl rfl)) (pgs_cons (pg_name (i := 7) sc.nd rfl (.inl rfl)) pgs_nil))))
    (pss_cons (ps_for PassesOwn.never rfl (pi_range1 (by rfl) T.range (pa_cons (pv 5) pa_nil)) (pg_name (i := 8) sc.nd rfl (.inl rfl))
      (pss_cons (ps_set (i := 6) sc.nd rfl (.inl rfl) (pe_op op_mulX (pv 6) (pv 3)))
      (pss_cons (ps_set (i := 7) sc.nd rfl (.inl rfl) (pe_op op_mulX (pv 7) (pv 4)))
      (pss_one (ps_if (pt_cmpR op_in_seq (pv 0) (pe_tup (pa_cons pe_str (pa_cons pe_str (pa_cons pe_str pa_nil)))) (by with_unfolding_all rfl))
        (pss_one (ps_set (i := 7) sc.nd rfl (.inl rfl) (pe_op op_mulX (pv 7) (pe_op op_add (pv 8) pe_int)))) pss_nil)))))
    (pss_cut (ps_if (pt_cmpR op_in_seq (pv 0) (pe_tup (pa_cons pe_str (pa_cons pe_str pa_nil))) (by with_unfolding_all rfl))
      (pss_one (ps_set (i := 7) sc.nd rfl (.inl rfl) (pe_op op_mulX (pv 7) (pv 5)))) pss_nil)
    (pss_cut (ps_if (pt_cmpR op_eq (pv 0) pe_str (nomark _))
      (pss_one (ps_set (i := 6) sc.nd rfl (.inl rfl) (pe_op op_mulX pe_int (pv 6)))) pss_nil)
    (pss_cut (ps_if (PW.pt (pw_and (pt_cmpR op_in_seq (pv 0) (pe_tup (pa_cons pe_str (pa_cons pe_str (pa_cons pe_str pa_nil)))) (by with_unfolding_all rfl)) (pw_and1 (pt_cmpR op_eq (pe_op op_mod (pv 2) pe_int) pe_int (nomark _)))))
      (pss_one (ps_set (i := 6) sc.nd rfl (.inl rfl) (pe_op op_sub pe_int (pv 6)))) pss_nil)
    (pss_one (ps_ret (pe_call c_law_frac.ok (hr.mono (by decide)) (by rfl) c_law_frac.m c_law_frac.kp c_law_frac.b .nil pass0 (pa_cons (pv 6) (pa_cons (pv 7) pa_nil)))))))))))))), ?_⟩
    obtain ⟨c, B, bl, bn⟩ := sz.bnd
    have B : Bnd w (argX w n) (argY w n) (argQ w n) c j := B
    have abb : (ab w n).1.natAbs ≤ 2 ^ c ∧ (ab w n).2.natAbs ≤ 2 ^ c := by
      by_cases hw : w = .log
      · exact bl hw (h0 hw)
      · exact bn hw
    have b0 := (arg_rel h0).2.1
    have j59 := B.j59
    have c45 := B.c45
    have ck := B.k
    have k119 := kk_le w j59
    have te : ∀ (x : Wd5) {σ' : L2.St} {H' : Hp} {z : Str}, z = x.s → σ'[0]? = some (some (.str w.s)) → EvT (tTest (tOp rEq (tVar 0) (tC (.str z)))) σ' H' (decide (w = x)) := fun x {σ' H' z} hz hi => by
      subst hz
      have := et_test (ev_op (H := H') (ev_var (i := 0) (σ := σ') hi) (ev_c (v := .str x.s)) (rv_eq (x := .str w.s) (y := .str x.s) rfl))
      rw [ws_eq] at this
      exact this
    refine ⟨v, rfl, v, n, rfl, hv, sz.n1, sz.n2, fun H1 p e1 hp => ?_⟩
    refine ⟨p, _, rfl, st_of hp, rfl, .int (sA n), _, rfl, .int (sB n), [], rfl, rfl, ?_⟩
    refine ⟨fun σ' H' => Ex H H' ∧ σ' = [some (.str w.s), some v, some (.int (j : Int)), some (.int (ab w n).1), some (.int (ab w n).2), none, none, none, none], ?_, ?_⟩
    · refine s_when (te .log rfl rfl) (fun z H2 e2 => ?_) (fun z H2 e2 => ?_)
      · have z : w = .log := of_decide_eq_true z
        have s0 : 0 < sA n + sB n := Int.add_pos (sA_pos (h0 z)) (sB_pos n)
        have sb : (sA n + sB n).natAbs ≤ 2 ^ 8000 := by
          have y : argY w n = sA n + sB n := by unfold argY; rw [if_pos z]
          rw [← y]
          exact bb_up B.y (by omega)
        refine ⟨.int (sA n), rfl, .int (sB n), rfl, _, _, rfl, rfl, .int (sA n), rfl, .int (sB n), rfl, _, _, rfl, rfl, sA n - sB n, sA n + sB n, rfl, s0, sb, fun H3 p3 e3 hp3 => ?_⟩
        refine ⟨p3, _, rfl, st_of hp3, rfl, _, _, rfl, _, [], rfl, rfl, (e1.trans e2).trans e3, ?_⟩
        unfold ab
        rw [if_pos z]
        rfl
      · have z : ¬ w = .log := of_decide_eq_false z
        refine ⟨e1.trans e2, ?_⟩
        unfold ab
        rw [if_neg z]
        rfl
    rintro σ' H2 ⟨e2, rfl⟩
    generalize (ab w n).1 = a at *
    generalize (ab w n).2 = b at *
    refine ⟨.int (j : Int), rfl, 2, (j : Int), rfl, rfl, mx (a := 2) (by decide) (bb_nat (a := 7) (show j ≤ 128 by omega)) (by decide), _, 1, rfl, rfl, .int (j : Int), rfl, by show 2 ≤ sizeLine; decide, fun L hL => ?_⟩
    have e3 := Ex.new (o := .lst [.int (2 * (j : Int) + 1), .int (j : Int)]) hL
    have hL3 : (upd H2 L (.lst [.int (2 * (j : Int) + 1), .int (j : Int)])) L = some (.lst [.int (2 * (j : Int) + 1), .int (j : Int)]) := upd_same
    have eL : upd H2 L (.lst [V.int ((fun i j => i + j) ((fun i j => i * j) 2 (j : Int)) 1), .int (j : Int)]) = upd H2 L (.lst [.int (2 * (j : Int) + 1), .int (j : Int)]) := rfl
    dsimp only
    generalize upd H2 L (.lst [.int (2 * (j : Int) + 1), .int (j : Int)]) = H3 at e3 hL3 ⊢
    have ei : (if decide (V.str w.s = V.str "exp") = true then (1 : Int) else 0) = if w = .exp then 1 else 0 := by
      rw [show decide (V.str w.s = V.str "exp") = decide (w = .exp) from ws_eq w .exp]
      by_cases z : w = .exp
      · rw [decide_eq_true z, if_pos rfl, if_pos z]
      · rw [decide_eq_false z, if_neg (by decide), if_neg z]
    have hx : atI [V.int (2 * (j : Int) + 1), V.int (j : Int)] (if decide (V.str w.s = V.str "exp") = true then (1 : Int) else 0) = some (.int (if w = .exp then (j : Int) else 2 * (j : Int) + 1)) := by
      rw [ei]
      by_cases z : w = .exp
      · rw [if_pos z, if_pos z]
        rfl
      · rw [if_neg z, if_neg z]
        rfl
    refine ⟨.str w.s, rfl, rfl, .inr ⟨_, rfl, L, _, _, _, rfl, rfl, sq_of hL3, hx, ?_⟩⟩
    have ks : (if w = .exp then (j : Int) else 2 * (j : Int) + 1) - (if decide (V.str w.s = V.str "cos") = true then (1 : Int) else 0) = (kk w j : Int) := by
      rw [show decide (V.str w.s = V.str "cos") = decide (w = .cos) from ws_eq w .cos]
      cases w <;> simp [kk, Wd5.k0, Wd5.st] <;> omega
    refine ⟨_, rfl, .str w.s, rfl, rfl, .inr ⟨_, rfl, _, _, rfl, rfl, ?_⟩⟩
    dsimp only
    rw [ks]
    refine ⟨by show 2 ≤ sizeLine; decide, fun p6 hp6 => ?_⟩
    have e23 := (e2.trans e3).trans (Ex.new (o := .tup [.int 1, .int 1]) hp6)
    refine ⟨p6, _, rfl, st_of upd_same, rfl, _, _, rfl, _, [], rfl, rfl, ?_⟩
    generalize upd H3 p6 (.tup [.int 1, .int 1]) = H4 at e23 ⊢
    have ap : ∀ {i : Nat} {x : Int}, i ≤ kk w j → x.natAbs ≤ 2 ^ c → (x ^ i).natAbs ≤ 2 ^ 1300 := fun {i x} hi hx => bb_up (bb_pow hx i) (Nat.le_trans (Nat.mul_le_mul_left c hi) ck)
    refine ⟨.int (kk w j : Int), rfl, (kk w j : Int), rfl, by omega, by omega, for_range (lo := 0) (n := ((kk w j : Nat) : Int).toNat) (fun i σ' H' => Ex H H' ∧ i ≤ kk w j ∧ ∃ t8, σ' = [some (.str w.s), some v, some (.int (j : Int)), some (.int a), some (.int b), some (.int (kk w j : Int)), some (.int (a ^ i)), some (.int (b ^ i * fF w i)), t8]) ⟨e23, Nat.zero_le _, none, ?_⟩ (fun i σ' H4 hi hp4 => ?_) (fun σ' H4 hp4 => ?_)⟩
    · have f0 : fF w 0 = 1 := by unfold fF; split <;> rfl
      rw [f0, Int.pow_zero, Int.pow_zero]
      rfl
    · obtain ⟨e4, _, t8, rfl⟩ := hp4
      have hi : i < kk w j := hi
      have a1 := ap (show i ≤ kk w j by omega) abb.1
      have b1 := bb_mul (ap (show i ≤ kk w j by omega) abb.2) (fF_bd w (show i ≤ 120 by omega))
      refine g_name ?_
      rw [Int.zero_add (i : Int)]
      refine ⟨.int (a ^ i), rfl, .int a, rfl, _, _, rfl, rfl, mx a1 abb.1 (by omega), ?_⟩
      refine ⟨.int (b ^ i * fF w i), rfl, .int b, rfl, _, _, rfl, rfl, mx b1 abb.2 (by omega), ?_⟩
      refine ⟨.str w.s, rfl, by show 3 ≤ sizeLine; decide, fun p5 hp5 => ?_⟩
      refine ⟨p5, _, rfl, .inr (st_of upd_same), rfl, rfl, _, rfl, ?_⟩
      have e5 := e4.trans (Ex.new (o := .tup [.str "exp", .str "sin", .str "cos"]) hp5)
      rw [in_esc]
      have ea : a ^ (i + 1) = a ^ i * a := Int.pow_succ ..
      refine ite2 (fun z => ?_) (fun z => ?_)
      · have z : w.odd = false := by cases h : w.odd with | false => rfl | true => (have z : (!w.odd) = true := z; rw [h] at z; cases z)
        have eb : b ^ (i + 1) * fF w (i + 1) = b ^ i * fF w i * b * ((i : Int) + 1) := by
          unfold fF
          rw [z, if_neg (by decide), if_neg (by decide), Int.pow_succ]
          show b ^ i * b * (fct i * ((i : Int) + 1)) = _
          generalize b ^ i = x
          generalize fct i = y
          generalize (i : Int) + 1 = z
          grind
        refine ⟨_, rfl, .int (i : Int), rfl, _, 1, rfl, rfl, _, _, rfl, rfl, mx (bb_mul b1 abb.2) (b := 7) (show ((i : Int) + 1).natAbs ≤ 128 by omega) (by omega), e5, hi, some (.int (i : Int)), ?_⟩
        rw [ea, eb]
        rfl
      · have z : w.odd = true := by cases h : w.odd with | true => rfl | false => (exact absurd (show (!w.odd) = true by rw [h]; rfl) z)
        have eb : b ^ (i + 1) * fF w (i + 1) = b ^ i * fF w i * b := by
          unfold fF
          rw [z, if_pos rfl, if_pos rfl, Int.pow_succ, Int.mul_one, Int.mul_one]
        refine ⟨e5, hi, some (.int (i : Int)), ?_⟩
        rw [ea, eb]
        rfl
    · obtain ⟨e4, _, t8, rfl⟩ := hp4
      dsimp only
      rw [Int.toNat_natCast]
      have a1 := ap (Nat.le_refl (kk w j)) abb.1
      have b1 := bb_mul (ap (Nat.le_refl (kk w j)) abb.2) (fF_bd w (show kk w j ≤ 120 by omega))
      refine ⟨fun σ' H' => Ex H H' ∧ σ' = [some (.str w.s), some v, some (.int (j : Int)), some (.int a), some (.int b), some (.int (kk w j : Int)), some (.int (a ^ kk w j)), some (.int (b ^ kk w j * cj w (kk w j))), t8], ?_, ?_⟩
      · refine ⟨.str w.s, rfl, by show 2 ≤ sizeLine; decide, fun p5 hp5 => ?_⟩
        refine ⟨p5, _, rfl, .inr (st_of upd_same), rfl, rfl, _, rfl, ?_⟩
        have e5 := e4.trans (Ex.new (o := .tup [.str "arc", .str "log"]) hp5)
        rw [in_al]
        unfold cj
        refine ite2 (fun z => ?_) (fun z => ?_)
        · have z : w.odd = true := z
          refine ⟨_, rfl, .int (kk w j : Int), rfl, _, _, rfl, rfl, mx b1 (bb_nat (a := 7) (show kk w j ≤ 128 by omega)) (by decide), e5, ?_⟩
          unfold fF
          rw [if_pos z, if_pos z, Int.mul_one]
          rfl
        · have z : ¬ w.odd = true := z
          refine ⟨e5, ?_⟩
          unfold fF
          rw [if_neg z, if_neg z]
      rintro σ' H5 ⟨e5, rfl⟩
      refine ⟨fun σ' H' => Ex H H' ∧ σ' = [some (.str w.s), some v, some (.int (j : Int)), some (.int a), some (.int b), some (.int (kk w j : Int)), some (.int (w.two * a ^ kk w j)), some (.int (b ^ kk w j * cj w (kk w j))), t8], ?_, ?_⟩
      · refine s_when (te .log rfl rfl) (fun z H6 e6 => ?_) (fun z H6 e6 => ?_)
        · have z : w = .log := of_decide_eq_true z
          refine ⟨.int (a ^ kk w j), rfl, 2, _, rfl, rfl, mx (a := 1) (by decide) a1 (by decide), e5.trans e6, ?_⟩
          have t2 : w.two = 2 := by rw [z]; rfl
          rw [t2]
          rfl
        · have z : ¬ w = .log := of_decide_eq_false z
          have t2 : w.two = 1 := by cases w <;> first | rfl | exact absurd rfl z
          refine ⟨e5.trans e6, ?_⟩
          rw [t2, Int.one_mul]
      rintro σ' H6 ⟨e6, rfl⟩
      refine ⟨fun σ' H' => Ex H H' ∧ σ' = [some (.str w.s), some v, some (.int (j : Int)), some (.int a), some (.int b), some (.int (kk w j : Int)), some (.int (trm w a b j).1), some (.int (trm w a b j).2), t8], ?_, ?_⟩
      · refine ⟨.str w.s, rfl, by show 3 ≤ sizeLine; decide, fun p5 hp5 => ?_⟩
        refine ⟨p5, _, rfl, .inr (st_of upd_same), rfl, rfl, _, rfl, ?_⟩
        have e7 := e6.trans (Ex.new (o := .tup [.str "sin", .str "cos", .str "arc"]) hp5)
        rw [in_sca]
        unfold trm
        rw [tn_pow w j]
        by_cases z : w.tn = -1
        · rw [decide_eq_true z]
          refine iteT ⟨.int (j : Int), rfl, (j : Int), 2, rfl, rfl, by show (0 : Int) < 2; decide, rfl, _, rfl, ?_⟩
          rw [decV]
          by_cases y : (j : Int) % 2 = 1
          · rw [decide_eq_true y, if_pos ⟨z, y⟩]
            refine iteT ⟨_, rfl, 0, _, rfl, rfl, e7, ?_⟩
            have e : (-1 : Int) * (w.two * a ^ kk w j) = 0 - w.two * a ^ kk w j := by omega
            rw [e]
            rfl
          · rw [decide_eq_false y, if_neg (fun u => y u.2)]
            refine iteF ⟨e7, ?_⟩
            rw [Int.one_mul]
        · rw [decide_eq_false z, if_neg (fun u => z u.1)]
          refine iteF (iteF ⟨e7, ?_⟩)
          rw [Int.one_mul]
      rintro σ' H7 ⟨e7, rfl⟩
      exact ⟨_, rfl, _, rfl, (trm w a b j).1, (trm w a b j).2, rfl, trm_pos w b0 j, bb_up (B.t2 (a := a) abb.2) (by decide), q.to e7⟩
theorem nrm2_ge (m e : Int) : min e 0 ≤ (nrm m e).2 := by
  unfold nrm
  by_cases h : m = 0
  · rw [if_pos h]
    show min e 0 ≤ 0
    omega
  · rw [if_neg h]
    show min e 0 ≤ e + (v2 m : Int)
    omega
theorem val_in {m e : Int} {B : Nat} {k : Int} (hk : 0 ≤ k) (h : m.natAbs * 2 ^ e.toNat ≤ B * 2 ^ k.toNat * 2 ^ (-e).toNat) : pord (-(B : Int), k) (nrm m e) ≤ 0 ∧ pord (nrm m e) ((B : Int), k) ≤ 0 := by
  have h1 := nrm2_ge m e
  have hE : min e 0 ≤ e := by omega
  have e1 : at_ (nrm m e) (min e 0) = m * 2 ^ e.toNat := by
    rw [nrm_at hE]
    congr 2
    omega
  have e2 : at_ ((B : Int), k) (min e 0) = (B : Int) * 2 ^ k.toNat * 2 ^ (-e).toNat := by
    show (B : Int) * 2 ^ (k - min e 0).toNat = _
    rw [show (k - min e 0).toNat = k.toNat + (-e).toNat by omega, Int.pow_add, ← Int.mul_assoc]
  have e3 : at_ (-(B : Int), k) (min e 0) = -((B : Int) * 2 ^ k.toNat * 2 ^ (-e).toNat) := by
    rw [← e2]
    exact at_neg ((B : Int), k) (min e 0)
  have h2 : ((m.natAbs * 2 ^ e.toNat : Nat) : Int) ≤ ((B * 2 ^ k.toNat * 2 ^ (-e).toNat : Nat) : Int) := Int.ofNat_le.mpr h
  rw [Int.natCast_mul, Int.natCast_mul, Int.natCast_mul, pow_two_cast, pow_two_cast, pow_two_cast] at h2
  have p := pow_pos2 e.toNat
  have a1 : m * 2 ^ e.toNat ≤ (m.natAbs : Int) * 2 ^ e.toNat := Int.mul_le_mul_of_nonneg_right (by omega) (by omega)
  have a2 : -((m.natAbs : Int) * 2 ^ e.toNat) ≤ m * 2 ^ e.toNat := by
    rw [← Int.neg_mul]
    exact Int.mul_le_mul_of_nonneg_right (by omega) (by omega)
  constructor
  · rw [ord_at (E := min e 0) (by show min e 0 ≤ k; omega) h1, e1, e3]
    omega
  · rw [ord_at (E := min e 0) h1 (by show min e 0 ≤ k; omega), e1, e2]
    omega
theorem size_ok {m e : Int} {k : Nat} (h : m.natAbs < 2 ^ k) : (nrm m e).1 = 0 ∨ psize (nrm m e) < k + e := by
  by_cases h0 : m = 0
  · exact .inl (by rw [h0]; rfl)
  · right
    obtain ⟨a, ha⟩ := v2_spec h0
    rw [nrm_of e ha]
    unfold psize
    show ((Builtin.Int.intBits (2 * a + 1) : Nat) : Int) - 1 + (e + (v2 m : Int)) < k + e
    rw [bits_of (by omega)]
    have l1 : 2 ^ (2 * a + 1).natAbs.log2 ≤ (2 * a + 1).natAbs := Nat.log2_self_le (by omega)
    have e1 : m.natAbs = 2 ^ v2 m * (2 * a + 1).natAbs := by
      have := congrArg Int.natAbs ha
      rw [Int.natAbs_mul] at this
      have e2 : ((2 : Int) ^ v2 m).natAbs = 2 ^ v2 m := by rw [← pow_two_cast]; rfl
      rw [e2] at this
      exact this
    have l2 : 2 ^ (v2 m + (2 * a + 1).natAbs.log2) < 2 ^ k := by
      rw [Nat.pow_add]
      exact Nat.lt_of_le_of_lt (Nat.mul_le_mul_left _ l1) (by rw [← e1]; exact h)
    have l3 := (Nat.pow_lt_pow_iff_right (by decide : 1 < 2)).mp l2
    omega
theorem sgn_pp {m e : Int} (h : 0 < m) : 0 < (nrm m e).1 := by
  have s := sgn_nrm m e
  rw [sgn_pos h] at s
  exact sgn_of_pos s
theorem sA_nrm (m e : Int) : (sA (nrm m e)).natAbs ≤ m.natAbs * 2 ^ e.toNat := by
  have h1 := nrm2_ge m e
  have hE : min e 0 ≤ e := by omega
  have e1 : at_ (nrm m e) (min e 0) = m * 2 ^ e.toNat := by
    rw [nrm_at hE]
    congr 2
    omega
  have e2 := at_abs (nrm m e) (min e 0)
  rw [e1, Int.natAbs_mul, Int.natAbs_pow] at e2
  have e3 : (2 : Int).natAbs = 2 := rfl
  rw [e3] at e2
  rw [e2]
  unfold sA
  rw [Int.natAbs_mul, Int.natAbs_pow, e3]
  exact Nat.mul_le_mul_left _ (Nat.pow_le_pow_right (by decide) (by omega))
theorem sB_nrm (m e : Int) : (sB (nrm m e)).natAbs ≤ 2 ^ (-e).toNat := by
  have h1 := nrm2_ge m e
  unfold sB
  rw [Int.natAbs_pow]
  exact Nat.pow_le_pow_right (by decide) (by omega)
/-- what is drawn -/
structure Drw (w : Wd5) (m e : Int) : Prop where
  s : (m.natAbs ≤ 10 ∧ e = -4) ∨ (m.natAbs ≤ 100 ∧ e = -7) ∨ (m.natAbs ≤ 1048577 ∧ e = -21) ∨ (m.natAbs ≤ 10 ∧ 0 ≤ e ∧ e ≤ 2 ∧ w ≠ .arc)
  l : w = .log → 0 < m
theorem Drw.pa {w : Wd5} {m e : Int} (d : Drw w m e) : m.natAbs * 2 ^ e.toNat ≤ 1000 ∧ 2 ^ (-e).toNat ≤ 2097152 ∨ m.natAbs * 2 ^ e.toNat ≤ 1048577 ∧ 2 ^ (-e).toNat = 2097152 := by
  rcases d.s with ⟨h, rfl⟩ | ⟨h, rfl⟩ | ⟨h, rfl⟩ | ⟨h, h1, h2, _⟩
  · left
    exact ⟨by show m.natAbs * 1 ≤ 1000; omega, by decide⟩
  · left
    exact ⟨by show m.natAbs * 1 ≤ 1000; omega, by decide⟩
  · right
    exact ⟨by show m.natAbs * 1 ≤ 1048577; omega, by decide⟩
  · left
    have h3 : e = 0 ∨ e = 1 ∨ e = 2 := by omega
    rcases h3 with rfl | rfl | rfl
    · exact ⟨by show m.natAbs * 1 ≤ 1000; omega, by decide⟩
    · exact ⟨by show m.natAbs * 2 ≤ 1000; omega, by decide⟩
    · exact ⟨by show m.natAbs * 4 ≤ 1000; omega, by decide⟩
theorem Drw.ok {w : Wd5} {m e : Int} (d : Drw w m e) : PlaceOf w.s (nrm m e) ∧ ArcOk w (nrm m e) ∧ Bd (nrm m e) 3000 ∧ ∀ J, 1 ≤ J → J ≤ 25 → Sz w (nrm m e) J := by
  have hm : m.natAbs < 2 ^ 21 := by
    show m.natAbs < 2097152
    rcases d.s with ⟨h, _⟩ | ⟨h, _⟩ | ⟨h, _⟩ | ⟨h, _⟩ <;> omega
  have he : -21 ≤ e ∧ e ≤ 2 := by
    rcases d.s with ⟨_, rfl⟩ | ⟨_, rfl⟩ | ⟨_, rfl⟩ | ⟨_, h1, h2, _⟩ <;> omega
  have hp := d.pa
  have q1 : 1 ≤ 2 ^ (-e).toNat := Nat.pow_pos (by decide)
  have x2 := nrm_exp (e := e) hm
  refine ⟨⟨fun z => ?_, fun z => sgn_pp (d.l ?_), fun z => ?_, fun _ _ _ => ?_⟩, fun z => ?_, ?_, fun J j1 j2 => ?_⟩
  · exact absurd z (by cases w <;> decide +kernel)
  · cases w <;> first | rfl | exact absurd z (by decide +kernel)
  · refine val_in (B := 125) (k := 3) (by decide) ?_
    show m.natAbs * 2 ^ e.toNat ≤ 1000 * 2 ^ (-e).toNat
    omega
  · rcases size_ok (e := e) hm with y | y
    · exact .inl y
    · right
      have : ((21 : Nat) : Int) = 21 := rfl
      omega
  · refine val_in (B := 1) (k := 0) (by decide) ?_
    show m.natAbs * 2 ^ e.toNat ≤ 1 * 2 ^ (-e).toNat
    rcases d.s with ⟨h, rfl⟩ | ⟨h, rfl⟩ | ⟨h, rfl⟩ | ⟨_, _, _, h⟩
    · show m.natAbs * 1 ≤ 1 * 16; omega
    · show m.natAbs * 1 ≤ 1 * 128; omega
    · show m.natAbs * 1 ≤ 1 * 2097152; omega
    · exact absurd z h
  · exact bd_nrm hm (by omega)
  · refine ⟨j1, by omega, Nat.lt_of_le_of_lt (nrm_abs m e) (Nat.lt_of_lt_of_le hm (Nat.pow_le_pow_right (by decide) (by decide))), by omega, 22, by decide, Nat.le_trans (sA_nrm m e) ?_, Nat.le_trans (sB_nrm m e) ?_, ?_⟩
    · show _ ≤ 4194304
      omega
    · show _ ≤ 4194304
      omega
    · have k1 : kk w (J - 1) ≤ 49 := by
        unfold kk
        cases w <;> simp only [Wd5.k0, Wd5.st] <;> omega
      omega
def mstD (way : Int) : Int := if way = 1 then 99 else if way = 2 then 1048576 else 9
def eOk (way e : Int) : Prop := (way = 0 → e = -4) ∧ (way = 1 → e = -7) ∧ (way = 2 → e = -21) ∧ (way = 3 → 0 ≤ e ∧ e ≤ 2)
theorem four_ways {w : Int} (h0 : 0 ≤ w) (h4 : w < 4) : w = 0 ∨ w = 1 ∨ w = 2 ∨ w = 3 := by omega
def spDrawn (K : PySem.W.Frag) : Sp := fun vs H Q _ => ∃ (p : Addr) (w : Wd5), vs = [.ref p, .str w.s] ∧ Pl p H ∧ ∀ v n H', Keeps p H H' → Pl p H' → Gn K H' v n 3000 → PlaceOf w.s n → ArcOk w n → (∀ J, 1 ≤ J → J ≤ 25 → Sz w n J) → Q v H'
theorem ok_law_drawn {f f1 f2 : Addr} {fd fd1 fd2 : FuncData} (T : Top mg) (F : FnP K "_law_drawn" s_law_drawn f fd) (c_law_take : Cal P w K mg base CX0 1 "_law_take" ["_law_pile", "_law_size"] spTake f1 fd1) (c_law_odd : Cal P w K mg base CX0 1 "_law_odd" ["_law_m", "_law_e"] spNof f2 fd2) : FnOk P w K mg base CX0 2 f fd ["_law_pile", "_law_word_own"] (spDrawn K) := by
  have sc := sc_law_drawn
  refine ok0 F sc (fun vs H Q E h => ?_) (fun cdv A outer s H vs Q E hr h => ?_)
  · obtain ⟨p, w, rfl, _⟩ := h
    rfl
  · obtain ⟨p, w, rfl, l0, q⟩ := h
    refine ⟨_, (pss_cons (ps_set (i := 2) sc.nd rfl (.inl rfl) (pe_call c_law_take.ok (hr.mono (by decide)) (by rfl) c_law_take.m c_law_take.kp c_law_take.b .nil pass0 (pa_cons (pv 0) (pa_cons pe_int pa_nil))))
    (pss_cons (ps_set (i := 3) sc.nd rfl (.inl rfl) (pe_ix ix_list (pe_lst (pa_cons pe_int (pa_cons pe_int (pa_cons (pe_op op_pow pe_int pe_int) (pa_cons pe_int pa_nil))))) (pv 2) (fun _ _ => rfl)))
    (pss_cons (ps_set (i := 4) sc.nd rfl (.inl rfl) (pe_op op_sub (pe_call c_law_take.ok (hr.mono (by decide)) (by rfl) c_law_take.m c_law_take.kp c_law_take.b .nil pass0 (pa_cons (pv 0) (pa_cons (pe_op op_add (pe_op op_mulX pe_int (pv 3)) pe_int) pa_nil))) (pv 3)))
    (pss_cons (ps_set (i := 5) sc.nd rfl (.inl rfl) (pe_ix ix_list (pe_lst (pa_cons (pe_op op_sub pe_int pe_int) (pa_cons (pe_op op_sub pe_int pe_int) (pa_cons (pe_op op_sub pe_int pe_int) (pa_cons (pe_call c_law_take.ok (hr.mono (by decide)) (by rfl) c_law_take.m c_law_take.kp c_law_take.b .nil pass0 (pa_cons (pv 0) (pa_cons pe_int pa_nil))) pa_nil))))) (pv 2) (fun _ _ => rfl)))
    (pss_cut (ps_if (PW.pt (pw_and (pt_cmpR op_eq (pv 1) pe_str (nomark _)) (pw_and1 (pt_cmpR op_eq (pv 2) pe_int (nomark _)))))
      (pss_one (ps_set (i := 5) sc.nd rfl (.inl rfl) (pe_op op_sub pe_int pe_int))) pss_nil)
    (pss_cut (ps_if (pt_cmpR op_eq (pv 1) pe_str (nomark _))
      (pss_one (ps_set (i := 4) sc.nd rfl (.inl rfl) (pe_op op_add (pe_callB call_abs (by rfl) T.abs (by decide +kernel) (pa_cons (pv 4) pa_nil)) pe_int))) pss_nil)
    (pss_one (ps_ret (pe_call c_law_odd.ok (hr.mono (by decide)) (by rfl) c_law_odd.m c_law_odd.kp c_law_odd.b .nil pass0 (pa_cons (pv 4) (pa_cons (pv 5) pa_nil))))))))))), ?_⟩
    have te : ∀ (x : Wd5) {σ' : L2.St} {H' : Hp} {z : Str}, z = x.s → σ'[1]? = some (some (.str w.s)) → EvT (tTest (tOp rEq (tVar 1) (tC (.str z)))) σ' H' (decide (w = x)) := fun x {σ' H' z} hz hi => by
      subst hz
      have := et_test (ev_op (H := H') (ev_var (i := 1) (σ := σ') hi) (ev_c (v := .str x.s)) (rv_eq (x := .str w.s) (y := .str x.s) rfl))
      rw [ws_eq] at this
      exact this
    have tk : ∀ {σ : L2.St} {H' : Hp} (n : Int), σ[0]? = some (some (.ref p)) → 0 < n → n ≤ 1000 → EvI p (fun z => 0 ≤ z ∧ z < n) (tCall spTake [] E0 (tCons (tVar 0) (tCons (tC (.int n)) tNil))) σ H' := fun n hi h0 h1 =>
      evi_take hi (evi_c (S := fun z => z = n) rfl) (fun m hm => by subst hm; exact ⟨h0, log_small (k := 10) h0 (by omega) (by decide)⟩) (fun m z hm a b => by subst hm; exact ⟨a, b⟩)
    have ng : ∀ {σ : L2.St} {H' : Hp} (n : Int), EvI p (fun z => z = -n) (tOp (rI0 fun i j => .int (i - j)) (tC (.int 0)) (tC (.int n))) σ H' := fun n => evi_op (S := fun z => z = 0) (T := fun z => z = n) (evi_c rfl) (evi_c rfl) (fun a b ha hb => by subst ha hb; omega)
    refine k_asg (tk 4 rfl (by decide) (by decide)) l0 fun v1 H1 k1 l1 ⟨way, e1, w0, w4⟩ => ?_
    subst e1
    refine k_asg (P := fun _ v => ∃ z, v = .int z ∧ z = mstD way) (evi_ix (U := fun z => z = mstD way) (W := fun z => z = way) (evk_lst
      (evis_cons (S := fun z => z = mstD 0) (evi_c rfl)
      (evis_cons (S := fun z => z = mstD 1) (evi_c rfl)
      (evis_cons (S := fun z => z = mstD 2) (evi_opC (S := fun z => z = 2) (T := fun z => z = 20) (evi_c rfl) (evi_c rfl) (fun a b ha hb => by subst ha hb; exact ⟨by decide, by decide, by decide⟩) (fun a b ha hb => by subst ha hb; decide +kernel))
      (evis_cons (S := fun z => z = mstD 3) (evi_c rfl) evis_nil))))) (evi_var rfl rfl)
      (fun z hz => by subst hz; refine ⟨w0, ?_⟩; rcases four_ways w0 w4 with rfl | rfl | rfl | rfl <;> exact ⟨_, rfl, fun z h => h⟩)) l1 fun v2 H2 k2 l2 ⟨most, e2, hmo⟩ => ?_
    subst e2
    have mb : 9 ≤ most ∧ most ≤ 1048576 := by
      rw [hmo]
      rcases four_ways w0 w4 with rfl | rfl | rfl | rfl <;> decide
    refine k_asg (P := fun _ v => ∃ z : Int, v = .int z ∧ (z.natAbs : Int) ≤ most) (evi_op (U := fun z => (z.natAbs : Int) ≤ most) (S := fun z => 0 ≤ z ∧ z < 2 * most + 1) (T := fun z => z = most) (evi_take (N := fun z => z = 2 * most + 1) rfl (evi_op (S := fun z => z = 2 * most) (T := fun z => z = 1) (evi_opC (S := fun z => z = 2) (T := fun z => z = most) (evi_c rfl) (evi_var rfl rfl) (fun a b ha hb => by subst ha hb; exact mx (a := 2) (b := 22) (by decide) (by show b.natAbs ≤ 4194304; omega) (by decide)) (fun a b ha hb => by subst ha hb; rfl)) (evi_c rfl) (fun a b ha hb => by subst ha hb; rfl)) (fun n hn => by subst hn; exact ⟨by omega, log_small (k := 30) (by omega) (by show 2 * most + 1 ≤ 1073741824; omega) (by decide)⟩) (fun n z hn a b => by subst hn; exact ⟨a, b⟩)) (evi_var rfl rfl) (fun a b ha hb => by subst hb; omega)) l2 fun v3 H3 k3 l3 ⟨m, e3, hm⟩ => ?_
    subst e3
    refine k_asg (P := fun _ v => ∃ z, v = .int z ∧ eOk way z) (evi_ix (U := eOk way) (W := fun z => z = way) (evk_lst
      (evis_cons (S := fun z => z = -4) (ng 4)
      (evis_cons (S := fun z => z = -7) (ng 7)
      (evis_cons (S := fun z => z = -21) (ng 21)
      (evis_cons (S := fun z => 0 ≤ z ∧ z < 3) (tk 3 rfl (by decide) (by decide)) evis_nil))))) (evi_var rfl rfl)
      (fun z hz => by
        subst hz
        refine ⟨w0, ?_⟩
        rcases four_ways w0 w4 with rfl | rfl | rfl | rfl
        · exact ⟨_, rfl, fun z h => ⟨fun _ => h, fun y => by omega, fun y => by omega, fun y => by omega⟩⟩
        · exact ⟨_, rfl, fun z h => ⟨fun y => by omega, fun _ => h, fun y => by omega, fun y => by omega⟩⟩
        · exact ⟨_, rfl, fun z h => ⟨fun y => by omega, fun y => by omega, fun _ => h, fun y => by omega⟩⟩
        · exact ⟨_, rfl, fun z h => ⟨fun y => by omega, fun y => by omega, fun y => by omega, fun _ => ⟨h.1, by have := h.2; omega⟩⟩⟩)) l3 fun v4 H4 k4 l4 ⟨e, e4, he⟩ => ?_
    subst e4
    have k04 := ((k1.trans k2).trans k3).trans k4
    obtain ⟨o0, o1, o2, o3⟩ := he
    have m0 : way = 0 → m.natAbs ≤ 9 := fun z => by
      have : most = 9 := by rw [hmo, z]; rfl
      omega
    have m1 : way = 1 → m.natAbs ≤ 99 := fun z => by
      have : most = 99 := by rw [hmo, z]; rfl
      omega
    have m2 : way = 2 → m.natAbs ≤ 1048576 := fun z => by omega
    have m3 : way = 3 → m.natAbs ≤ 9 := fun z => by
      have : most = 9 := by rw [hmo, z]; rfl
      omega
    refine ⟨fun σ' H' => Keeps p H H' ∧ Pl p H' ∧ ∃ e' : Int, σ' = [some (.ref p), some (.str w.s), some (.int way), some (.int most), some (.int m), some (.int e')] ∧ ((m.natAbs ≤ 9 ∧ e' = -4) ∨ (m.natAbs ≤ 99 ∧ e' = -7) ∨ (m.natAbs ≤ 1048576 ∧ e' = -21) ∨ (m.natAbs ≤ 9 ∧ 0 ≤ e' ∧ e' ≤ 2 ∧ w ≠ .arc)), ?_, ?_⟩
    · refine s_when (et_and (te .arc rfl rfl) (fun _ => by
        have := et_test (ev_op (H := H4) (ev_var (i := 2) (σ := [some (.ref p), some (.str w.s), some (.int way), some (.int most), some (.int m), some (.int e)]) rfl) (ev_c (v := .int 3)) (rv_eq (x := .int way) (y := .int 3) rfl))
        rw [decV] at this
        exact this)) (fun z H5 x5 => ?_) (fun z H5 x5 => ?_)
      · obtain ⟨_, z2⟩ := Bool.and_eq_true_iff.mp z
        have z2 : way = 3 := of_decide_eq_true z2
        refine ⟨0, 4, rfl, rfl, k04.trans (keeps_ex x5), pl_ex l4 x5, -4, rfl, .inl ⟨m3 z2, rfl⟩⟩
      · refine ⟨k04.trans (keeps_ex x5), pl_ex l4 x5, e, rfl, ?_⟩
        rcases four_ways w0 w4 with y | y | y | y
        · exact .inl ⟨m0 y, o0 y⟩
        · exact .inr (.inl ⟨m1 y, o1 y⟩)
        · exact .inr (.inr (.inl ⟨m2 y, o2 y⟩))
        · refine .inr (.inr (.inr ⟨m3 y, (o3 y).1, (o3 y).2, fun u => ?_⟩))
          rw [decide_eq_true u, decide_eq_true y] at z
          cases z
    rintro σ' H5 ⟨k5, l5, e', rfl, hd⟩
    refine ⟨fun σ' H' => Keeps p H H' ∧ Pl p H' ∧ ∃ m' : Int, σ' = [some (.ref p), some (.str w.s), some (.int way), some (.int most), some (.int m'), some (.int e')] ∧ Drw w m' e', ?_, ?_⟩
    · refine s_when (te .log rfl rfl) (fun z H6 x6 => ?_) (fun z H6 x6 => ?_)
      · refine ⟨.int m, rfl, m, rfl, _, 1, rfl, rfl, k5.trans (keeps_ex x6), pl_ex l5 x6, _, rfl, ?_, fun _ => ?_⟩
        · have ea : ((if m < 0 then -m else m) + 1).natAbs = m.natAbs + 1 := by
            by_cases y : m < 0
            · rw [if_pos y]; omega
            · rw [if_neg y]; omega
          rw [ea]
          rcases hd with ⟨h, h1⟩ | ⟨h, h1⟩ | ⟨h, h1⟩ | ⟨h, h1⟩
          · exact .inl ⟨by omega, h1⟩
          · exact .inr (.inl ⟨by omega, h1⟩)
          · exact .inr (.inr (.inl ⟨by omega, h1⟩))
          · exact .inr (.inr (.inr ⟨by omega, h1⟩))
        · by_cases y : m < 0
          · rw [if_pos y]; omega
          · rw [if_neg y]; omega
      · refine ⟨k5.trans (keeps_ex x6), pl_ex l5 x6, m, rfl, ?_, fun y => absurd y (of_decide_eq_false z)⟩
        rcases hd with ⟨h, h1⟩ | ⟨h, h1⟩ | ⟨h, h1⟩ | ⟨h, h1⟩
        · exact .inl ⟨by omega, h1⟩
        · exact .inr (.inl ⟨by omega, h1⟩)
        · exact .inr (.inr (.inl ⟨by omega, h1⟩))
        · exact .inr (.inr (.inr ⟨by omega, h1⟩))
    rintro σ' H6 ⟨k6, l6, m', rfl, d⟩
    obtain ⟨d1, d2, d3, d4⟩ := d.ok
    exact ⟨.int m', rfl, .int e', rfl, m', e', rfl, fun H7 u x7 _ hu => q (.ref u) (nrm m' e') H7 (k6.trans (keeps_ex x7)) (pl_ex l6 x7) ⟨numAt_of hu, nrm_num m' e', d3⟩ d1 d2 d4⟩
theorem ok_law_whole {f : Addr} {fd : FuncData} (T : Top mg) (F : FnP K "_law_whole" s_law_whole f fd) : FnOk P w K mg base CX0 1 f fd ["_law_found"] (spWhole K) := by
  have sc := sc_law_whole
  refine ok0 F sc (fun vs H Q E h => ?_) (fun cdv A outer s H vs Q E hr h => ?_)
  · obtain ⟨v, b, rfl, _⟩ := h
    rfl
  · obtain ⟨v, b, rfl, hw, q⟩ := h
    obtain ⟨t, b1, b2, ty, k1, k2, rfl⟩ := hw.kinds
    refine ⟨_, (pss_one (ps_ret (pe_and (pe_callB call_isi (by rfl) T.isinstance (by decide +kernel) (pa_cons (pv 0) (pa_cons (pe_bltn (v := .ty "int") (by rfl) T.ty_int (by decide +kernel) rfl) pa_nil))) (pe_one (pe_not (pe_callB call_isi (by rfl) T.isinstance (by decide +kernel) (pa_cons (pv 0) (pa_cons (pe_bltn (v := .ty "bool") (by rfl) T.ty_bool (by decide +kernel) rfl) pa_nil)))))))), ?_⟩
    refine rd_isi (i := 0) rfl ty k1 ⟨b1, rfl, ?_⟩
    cases b1 with
    | true => exact iteT (rd_isi (i := 0) rfl ty k2 ⟨b2, rfl, q⟩)
    | false => exact iteF q
def spGood5 (K : PySem.W.Frag) : Sp := fun vs H Q _ => ∃ (w : Wd5) (v : V) (n : Int × Int) (J : Nat), vs = [.str w.s, v, .int (J : Int)] ∧ Gn K H v n 3000 ∧ PlaceOf w.s n ∧ ArcOk w n ∧ Sz w n J ∧ ∀ H', Ex H H' → Q (.bl true) H'
theorem due_all {w : Wd5} {n : Int × Int} {J : Nat} (h0 : w = .log → 0 < n.1) (sz : Sz w n J) : ∀ i, i < J → (due w (ab w n).1 (ab w n).2 i).1.natAbs ≤ 2 ^ 20000 ∧ (due w (ab w n).1 (ab w n).2 i).2.natAbs ≤ 2 ^ 3853
  | 0, _ => ⟨Nat.zero_le _, Nat.pow_pos (by decide)⟩
  | i + 1, h => by
    obtain ⟨c, B, _, _⟩ := sz.bnd
    obtain ⟨r1, r2, r3, r4⟩ := arg_rel h0
    have Bi := B.down (show i ≤ J - 1 by omega)
    have i59 := Bi.j59
    obtain ⟨d1, d2⟩ := due_bd Bi r4 r3 r2 r1
    exact ⟨bb_up d1 (by omega), d2⟩
theorem eq_same (n : Int × Int) : PyData.eqv (.tuple [.int n.1, .int n.2]) (.tuple [.int n.1, .int n.2]) = true := by
  rw [eqv_pairs, decide_eq_true rfl, decide_eq_true rfl]
  rfl
theorem ok_law_good {f f1 f2 f3 f4 : Addr} {fd fd1 fd2 fd3 fd4 : FuncData} {g3 : List Value → List Value → List Value} (T : Top mg) (F : FnP K "_law_good" s_law_good f fd) (c_law_plus : Cal P w K mg base CX0 3 "_law_plus" ["_law_one", "_law_other"] (spPlu K) f1 fd1) (c_law_term : Cal P w K mg base CX0 3 "_law_term" ["_law_word_own", "_law_number_own", "_law_k"] (spTerm K) f2 fd2) (c_series_sum : Cal P w K mg base CX0 6 "series_sum" ["word", "number", "many"] (spSer K) f3 fd3) (c_law_whole : Cal P w K mg base CX0 1 "_law_whole" ["_law_found"] (spWhole K) f4 fd4)
    (c_series_sum_kb_many_number_word : KBn K fd3 ["word", "number", "many"] 0 ["many", "number", "word"] g3 (fun _ zs => zs.reverse)) : FnOk P w K mg base CX0 7 f fd ["_law_word_own", "_law_number_own", "_law_most"] (spGood5 K) := by
  have sc := sc_law_good
  refine ok0 F sc (fun vs H Q E h => ?_) (fun cdv A outer s H vs Q E hr h => ?_)
  · obtain ⟨w, v, n, J, rfl, _⟩ := h
    rfl
  · obtain ⟨w, v, n, J, rfl, gv, po, ao, sz, q⟩ := h
    refine ⟨_, (pss_cons (ps_set (i := 3) sc.nd rfl (.inl rfl) (pe_tup (pa_cons pe_int (pa_cons pe_int pa_nil))))
    (pss_cons (ps_for PassesOwn.never rfl (pi_range1 (by rfl) T.range (pa_cons (pv 2) pa_nil)) (pg_name (i := 4) sc.nd rfl (.inl rfl))
      (pss_cons (ps_set (i := 3) sc.nd rfl (.inl rfl) (pe_call c_law_plus.ok (hr.mono (by decide)) (by rfl) c_law_plus.m c_law_plus.kp c_law_plus.b .nil pass0 (pa_cons (pv 3) (pa_cons (pe_call c_law_term.ok (hr.mono (by decide)) (by rfl) c_law_term.m c_law_term.kp c_law_term.b .nil pass0 (pa_cons (pv 0) (pa_cons (pv 1) (pa_cons (pv 4) pa_nil)))) pa_nil))))
      (pss_one (ps_if (PW.pt (pw_or (pt_cmpR op_lt (pv 4) pe_int (nomark _)) (pw_or1 (pt_cmpR op_gt (pv 4) (pe_op op_sub (pv 2) pe_int) (nomark _)))))
        (pss_cons (ps_set (i := 5) sc.nd rfl (.inl rfl) (pe_call c_series_sum.ok (hr.mono (by decide)) (by rfl) c_series_sum.m c_series_sum.kp c_series_sum.b .nil pass0 (pa_cons (pv 0) (pa_cons (pv 1) (pa_cons (pe_op op_add (pv 4) pe_int) pa_nil)))))
        (pss_cons (ps_if (PW.pt (pw_or (pt_not (pt_val (pe_callB call_isi (by rfl) T.isinstance (by decide +kernel) (pa_cons (pv 5) (pa_cons (pe_bltn (v := .ty "tuple") (by rfl) T.ty_tuple (by decide +kernel) rfl) pa_nil))))) (pw_or (pt_cmpR op_ne (pe_callB call_len (by rfl) T.len (by decide +kernel) (pa_cons (pv 5) pa_nil)) pe_int (nomark _)) (pw_or1 (pt_cmpR (op_neD hr.units) (pv 5) (pv 3) (nomark _))))))
          (pss_one (ps_ret pe_bl)) pss_nil)
        (pss_one (ps_if (PW.pt (pw_or (pt_not (pt_val (pe_call c_law_whole.ok (hr.mono (by decide)) (by rfl) c_law_whole.m c_law_whole.kp c_law_whole.b .nil pass0 (pa_cons (pe_ix ix_tup (pv 5) pe_int (fun _ _ => rfl)) pa_nil)))) (pw_or (pt_not (pt_val (pe_call c_law_whole.ok (hr.mono (by decide)) (by rfl) c_law_whole.m c_law_whole.kp c_law_whole.b .nil pass0 (pa_cons (pe_ix ix_tup (pv 5) pe_int (fun _ _ => rfl)) pa_nil)))) (pw_or1 (pt_cmpR op_lt (pe_ix ix_tup (pv 5) pe_int (fun _ _ => rfl)) pe_int (nomark _))))))
          (pss_one (ps_ret pe_bl)) pss_nil)))) pss_nil))))
    (pss_one (ps_ret (pe_cmpR (op_eqD hr.units) (pe_callN0 c_series_sum.ok (hr.mono (by decide)) (by rfl) c_series_sum.m c_series_sum.kp c_series_sum_kb_many_number_word pass0 (pk_cons (pv 2) (pk_cons (pv 1) (pk_cons (pv 0) pk_nil)))) (pv 3) (nomark _)))))), ?_⟩
    have h0 := place_log po
    have da := due_all h0 sz
    have b0 := (arg_rel h0).2.1
    have j60 := sz.j60
    have j1 := sz.j1
    have tb : ∀ i, i < J → (trm w (ab w n).1 (ab w n).2 i).1.natAbs ≤ 2 ^ 1301 ∧ (trm w (ab w n).1 (ab w n).2 i).2.natAbs ≤ 2 ^ 2140 := fun i hi => by
      obtain ⟨c, B, bl, bn⟩ := sz.bnd
      have abb : (ab w n).1.natAbs ≤ 2 ^ c ∧ (ab w n).2.natAbs ≤ 2 ^ c := by
        by_cases hw : w = .log
        · exact bl hw (h0 hw)
        · exact bn hw
      have Bi := B.down (show i ≤ J - 1 by omega)
      exact ⟨Bi.t1 (b := (ab w n).2) abb.1, Bi.t2 (a := (ab w n).1) abb.2⟩
    have dpos := fun i => due_pos w (a := (ab w n).1) b0 i
    have tpos := fun i => trm_pos w (a := (ab w n).1) b0 i
    have dsucc : ∀ i, due w (ab w n).1 (ab w n).2 (i + 1) = fplus (due w (ab w n).1 (ab w n).2 i) (frc (trm w (ab w n).1 (ab w n).2 i).1 (trm w (ab w n).1 (ab w n).2 i).2) := fun i => rfl
    have d00 : due w (ab w n).1 (ab w n).2 0 = (0, 1) := rfl
    refine ⟨by show 2 ≤ sizeLine; decide, fun p0 hp0 => ?_⟩
    have e0 := Ex.new (o := .tup [.int 0, .int 1]) hp0
    have hd0 : NumAt K (upd H p0 (.tup [.int 0, .int 1])) (.ref p0) (due w (ab w n).1 (ab w n).2 0) := ⟨p0, rfl, st_of upd_same⟩
    generalize upd H p0 (.tup [.int 0, .int 1]) = H0 at e0 hd0 ⊢
    refine ⟨.int (J : Int), rfl, (J : Int), rfl, by omega, by omega, for_range (lo := 0) (n := ((J : Nat) : Int).toNat) (fun i σ' H' => Ex H H' ∧ ∃ d t4 t5, σ' = [some (.str w.s), some v, some (.int (J : Int)), some d, t4, t5] ∧ NumAt K H' d (due w (ab w n).1 (ab w n).2 i)) ⟨e0, .ref p0, none, none, rfl, hd0⟩ (fun i σ' H1 hi hp1 => ?_) (fun σ' H1 hp1 => ?_)⟩
    · obtain ⟨e1, d, t4, t5, rfl, hd⟩ := hp1
      have hi : i < J := hi
      refine g_name ?_
      rw [Int.zero_add (i : Int)]
      refine ⟨d, rfl, .str w.s, rfl, v, rfl, .int (i : Int), rfl, w, v, n, i, rfl, (gv.ex e1).at_, h0, sz.down (by omega) (by omega), fun H2 p2 e2 hp2 => ?_⟩
      obtain ⟨x1, x2⟩ := da i hi
      obtain ⟨y1, y2⟩ := tb i hi
      obtain ⟨z1, z2⟩ := frc_bd (t := (trm w (ab w n).1 (ab w n).2 i).1) (tpos i)
      refine ⟨d, .ref p2, _, frc (trm w (ab w n).1 (ab w n).2 i).1 (trm w (ab w n).1 (ab w n).2 i).2, rfl, numAt_ex e2 hd, ⟨p2, rfl, st_of hp2⟩, dpos i, (frc_ok (tpos i)).1, x1, bb_up (Nat.le_trans z1 y1) (by decide), x2, Nat.le_trans z2 y2, fun H3 p3 e3 hp3 => ?_⟩
      rw [← dsucc i] at hp3
      have hd3 : NumAt K H3 (.ref p3) (due w (ab w n).1 (ab w n).2 (i + 1)) := ⟨p3, rfl, st_of hp3⟩
      have dp3 := dpos (i + 1)
      have e13 := (e1.trans e2).trans e3
      have e13n := fun (x : Hp) (y : Ex H3 x) => e13.trans y
      refine s_when (et_or (et_test (ev_op (ev_var (i := 4) rfl) ev_c rv_I0)) (fun _ => et_test (ev_op (ev_var (i := 4) rfl) (ev_op (ev_var (i := 2) rfl) ev_c rv_I0) rv_I0))) (fun _ H4 e4 => ?_) (fun _ H4 e4 => ⟨e13.trans e4, .ref p3, _, _, rfl, numAt_ex e4 hd3⟩)
      refine ⟨.str w.s, rfl, v, rfl, .int (i : Int), rfl, (i : Int), 1, rfl, rfl, w, v, n, i, rfl, gv.ex (e13.trans e4), po, ao, sz.down (by omega) (by omega), fun H5 p5 e5 hp5 => ?_⟩
      have hd5 := numAt_ex (e4.trans e5) hd3
      have hq5 : NumAt K H5 (.ref p5) (due w (ab w n).1 (ab w n).2 (i + 1)) := ⟨p5, rfl, st_of hp5⟩
      have e15 := (e13.trans e4).trans e5
      generalize due w (ab w n).1 (ab w n).2 (i + 1) = D at *
      have tp5 : SqT K H5 p5 [.int D.1, .int D.2] := st_of hp5
      refine rd_tup (i := 5) rfl tp5 ⟨true, rfl, iteF ?_⟩
      refine ⟨.ref p5, rfl, .ref p5, 2, rfl, .inr ⟨_, tp5, rfl⟩, rfl, _, rfl, iteNS rfl ?_⟩
      refine ⟨.ref p5, rfl, .ref p3, rfl, _, _, numAt_dp hq5, numAt_dp hd5, pair_shaped _ _, pair_shaped _ _, false, by rw [eq_same]; rfl, iteF ?_⟩
      refine ⟨.ref p5, rfl, p5, [.int D.1, .int D.2], 0, .int D.1, rfl, rfl, tp5, rfl, .int D.1, true, rfl, whole_int _, true, rfl, iteF ?_⟩
      refine ⟨.ref p5, rfl, p5, [.int D.1, .int D.2], 1, .int D.2, rfl, rfl, tp5, rfl, .int D.2, true, rfl, whole_int _, true, rfl, iteF ?_⟩
      refine ⟨.ref p5, rfl, p5, [.int D.1, .int D.2], 1, .int D.2, rfl, rfl, tp5, rfl, D.2, 1, rfl, rfl, _, rfl, ite2 (fun y => absurd (of_decide_eq_true y) (by omega)) (fun _ => ?_)⟩
      exact ⟨e15, .ref p3, _, _, rfl, hd5⟩
    · obtain ⟨e1, d, t4, t5, rfl, hd⟩ := hp1
      have hd : NumAt K H1 d (due w (ab w n).1 (ab w n).2 J) := hd
      obtain ⟨j, rfl⟩ : ∃ j, J = j + 1 := ⟨J - 1, by omega⟩
      refine ⟨.int ((j + 1 : Nat) : Int), rfl, v, rfl, .str w.s, rfl, rfl, rfl, w, v, n, j, rfl, gv.ex e1, po, ao, sz, fun H2 p2 e2 hp2 => ?_⟩
      have hq2 : NumAt K H2 (.ref p2) (due w (ab w n).1 (ab w n).2 (j + 1)) := ⟨p2, rfl, st_of hp2⟩
      refine ⟨d, rfl, _, _, numAt_dp hq2, numAt_dp (numAt_ex e2 hd), pair_shaped _ _, pair_shaped _ _, ?_⟩
      rw [eq_same]
      exact q H2 (e1.trans e2)
def spLaw (K : PySem.W.Frag) : Sp := fun vs H Q _ => ∃ (a : Addr) (ns : List Int), vs = [.ref a] ∧ SqL K H a (ns.map V.int) ∧ ∀ H', Q (.bl true) H'
theorem gn_keepP {v : V} {n : Int × Int} {B : Nat} {p : Addr} {H H' : Hp} (g : Gn K H v n B) (l : Pl p H) (k : Keeps p H H') : Gn K H' v n B := by
  obtain ⟨x, hx⟩ := l
  exact gn_keep g hx k
def wl5 : List Wd5 := [.exp, .log, .sin, .cos, .arc]
def wv5 : List V := wl5.map fun y : Wd5 => V.str y.s
theorem wl_mem {i : Nat} {x : V} (h : wv5[i]? = some x) : ∃ y : Wd5, x = .str y.s := by
  unfold wv5 at h
  rw [List.getElem?_map] at h
  cases hf : wl5[i]? with
  | none =>
    rw [hf] at h
    cases h
  | some y =>
    rw [hf] at h
    exact ⟨y, (Option.some.inj h).symm⟩
def FnL5 (H : Hp) (L : Addr) : Prop := H L = some (.lst wv5)
theorem q_seqP {tu tz : TS} {D : Ends} {σ : L2.St} {H : Hp} (h : tu { D with nx := tz D } σ H) : tSeq tu tz D σ H := h
theorem pl_lit {w : Wd5} {n : Int × Int} (h1 : w = .log → 0 < n.1) (h2 : pord (-125, 3) n ≤ 0 ∧ pord n (125, 3) ≤ 0) (h3 : n.1 = 0 ∨ psize n < 800) : PlaceOf w.s n := ⟨fun z => absurd z (by cases w <;> decide +kernel), fun z => h1 (by cases w <;> first | rfl | exact absurd z (by decide +kernel)), fun _ => h2, fun _ _ _ => h3⟩
theorem sz_lit {w : Wd5} {n : Int × Int} {J : Nat} (h1 : 1 ≤ J) (h2 : J ≤ 60) (h3 : n.1.natAbs ≤ 1) (h4 : n.2 = 0) : Sz w n J := by
  have k1 := kk_le w (j := J - 1) (by omega)
  refine ⟨h1, h2, Nat.lt_of_le_of_lt h3 (by decide), by omega, 1, by decide, ?_, ?_, by omega⟩
  · unfold sA
    rw [h4]
    show (n.1 * 1).natAbs ≤ 2
    omega
  · unfold sB
    rw [h4]
    decide
theorem ok_law {f fc fd0 fg ft : Addr} {fd fdc fdd fdg fdt : FuncData} (T : Top mg) (F : FnP K "law" s_law f fd)
    (c_law_cell : Cal P w K mg base CX0 2 "_law_cell" ["_law_script", "_law_k"] (spCel K) fc fdc) (c_law_drawn : Cal P w K mg base CX0 2 "_law_drawn" ["_law_pile", "_law_word_own"] (spDrawn K) fd0 fdd) (c_law_good : Cal P w K mg base CX0 7 "_law_good" ["_law_word_own", "_law_number_own", "_law_most"] (spGood5 K) fg fdg) (c_law_take : Cal P w K mg base CX0 1 "_law_take" ["_law_pile", "_law_size"] spTake ft fdt) : FnOk P w K mg base CX0 8 f fd ["_law_script"] (spLaw K) := by
  have sc := sc_law
  refine ok0 F sc (fun vs H Q E h => ?_) (fun cdv A outer s H vs Q E hr h => ?_)
  · obtain ⟨a, ns, rfl, _⟩ := h
    rfl
  · obtain ⟨a, ns, rfl, hS, q⟩ := h
    refine ⟨_, (pss_cons (ps_set (i := 1) sc.nd rfl (.inl rfl) (pe_lst (pa_cons pe_str (pa_cons pe_str (pa_cons pe_str (pa_cons pe_str (pa_cons pe_str pa_nil)))))))
    (pss_cons (ps_for PassesOwn.never rfl (pi_range1 (by rfl) T.range (pa_cons pe_int pa_nil)) (pg_name (i := 2) sc.nd rfl (.inl rfl))
      (pss_cons (ps_set (i := 3) sc.nd rfl (.inl rfl) (pe_lst (pa_cons (pe_call c_law_cell.ok (hr.mono (by decide)) (by rfl) c_law_cell.m c_law_cell.kp c_law_cell.b .nil pass0 (pa_cons (pv 0) (pa_cons (pv 2) pa_nil))) pa_nil)))
      (pss_one (ps_for PassesOwn.never rfl (pi_list (pv 1)) (pg_name (i := 4) sc.nd rfl (.inl rfl))
        (pss_cons (ps_set (i := 5) sc.nd rfl (.inl rfl) (pe_call c_law_drawn.ok (hr.mono (by decide)) (by rfl) c_law_drawn.m c_law_drawn.kp c_law_drawn.b .nil pass0 (pa_cons (pv 3) (pa_cons (pv 4) pa_nil))))
        (pss_one (ps_if (pt_not (pt_val (pe_call c_law_good.ok (hr.mono (by decide)) (by rfl) c_law_good.m c_law_good.kp c_law_good.b .nil pass0 (pa_cons (pv 4) (pa_cons (pv 5) (pa_cons (pe_op op_add pe_int (pe_call c_law_take.ok (hr.mono (by decide)) (by rfl) c_law_take.m c_law_take.kp c_law_take.b .nil pass0 (pa_cons (pv 3) (pa_cons (pe_ix ix_list (pe_lst (pa_cons pe_int (pa_cons pe_int pa_nil))) (pe_call c_law_take.ok (hr.mono (by decide)) (by rfl) c_law_take.m c_law_take.kp c_law_take.b .nil pass0 (pa_cons (pv 3) (pa_cons pe_int pa_nil))) (fun _ _ => rfl)) pa_nil)))) pa_nil))))))
          (pss_one (ps_ret pe_bl)) pss_nil)))))))
    (pss_cons (ps_for PassesOwn.never rfl (pi_list (pv 1)) (pg_name (i := 4) sc.nd rfl (.inl rfl))
      (pss_cons (ps_if (pt_not (pt_val (pe_call c_law_good.ok (hr.mono (by decide)) (by rfl) c_law_good.m c_law_good.kp c_law_good.b .nil pass0 (pa_cons (pv 4) (pa_cons (pe_tup (pa_cons pe_int (pa_cons pe_int pa_nil))) (pa_cons pe_int pa_nil))))))
        (pss_one (ps_ret pe_bl)) pss_nil)
      (pss_one (ps_if (PW.pt (pw_and (pt_cmpR op_ne (pv 4) pe_str (nomark _)) (pw_and1 (PW.pt (pw_or (pt_not (pt_val (pe_call c_law_good.ok (hr.mono (by decide)) (by rfl) c_law_good.m c_law_good.kp c_law_good.b .nil pass0 (pa_cons (pv 4) (pa_cons (pe_tup (pa_cons pe_int (pa_cons pe_int pa_nil))) (pa_cons pe_int pa_nil)))))) (pw_or1 (pt_not (pt_val (pe_call c_law_good.ok (hr.mono (by decide)) (by rfl) c_law_good.m c_law_good.kp c_law_good.b .nil pass0 (pa_cons (pv 4) (pa_cons (pe_tup (pa_cons (pe_un un_neg pe_int) (pa_cons pe_int pa_nil))) (pa_cons pe_int pa_nil))))))))))))
        (pss_one (ps_ret pe_bl)) pss_nil))))
    (pss_one (ps_ret pe_bl))))), ?_⟩
    refine ⟨by show 5 ≤ sizeLine; decide, fun L hL => ?_⟩
    have hL0 : FnL5 (upd H L (.lst wv5)) L := upd_same
    have hS0 : SqL K (upd H L (.lst wv5)) a (ns.map V.int) := ex_l (Ex.new hL) hS
    have eL : upd H L (.lst [.str "exp", .str "log", .str "sin", .str "cos", .str "arc"]) = upd H L (.lst wv5) := rfl
    rw [eL]
    generalize upd H L (.lst wv5) = H0 at *
    refine ⟨4, rfl, by decide, by decide, for_range (lo := 0) (n := 4) (fun _ σ' H' => SqL K H' a (ns.map V.int) ∧ FnL5 H' L ∧ ∃ t1 t2 t3 t4, σ' = [some (.ref a), some (.ref L), t1, t2, t3, t4]) ⟨hS0, hL0, none, none, none, none, rfl⟩ (fun i σ' H1 hi hp => ?_) (fun σ' H1 hp => ?_)⟩
    · obtain ⟨hS1, hL1, t1, t2, t3, t4, rfl⟩ := hp
      refine ⟨.ref a, rfl, .int (0 + (i : Int)), rfl, a, ns, _, rfl, hS1, by omega, by omega, fun z => ⟨by show 1 ≤ sizeLine; decide, fun p hp => ?_⟩⟩
      have x2 := Ex.new (o := .lst [.int z]) hp
      have l2 : Pl p (upd H1 p (.lst [.int z])) := pl_upd
      have Lp : L ≠ p := ne_of_none hL1 hp
      have hL2 : FnL5 (upd H1 p (.lst [.int z])) L := x2 _ _ hL1
      have fp : H1 p = none := hp
      generalize upd H1 p (.lst [.int z]) = H2 at *
      refine ⟨.ref L, rfl, L, rfl, ⟨_, sq_of hL2⟩, for_list (xs := wv5) (fun _ σ' H' => Keeps p H2 H' ∧ Pl p H' ∧ ∃ t t', σ' = [some (.ref a), some (.ref L), some (.int (0 + (i : Int))), some (.ref p), t, t']) ⟨Keeps.refl p H2, l2, _, _, rfl⟩ (fun j σ' H' _ hk => sq_of (hk.1 _ _ hL2 Lp)) (fun j x σ' H3 hx hk => ?_) (fun σ' H3 hk => ?_)⟩
      · obtain ⟨k3, l3, t, t', rfl⟩ := hk
        obtain ⟨w, rfl⟩ := wl_mem hx
        refine g_name ?_
        refine ⟨.ref p, rfl, .str w.s, rfl, p, w, rfl, l3, fun v n H4 k4 l4 g4 po ao sz => ?_⟩
        refine ⟨.str w.s, rfl, v, rfl, ?_⟩
        refine (evi_op (σ := [some (.ref a), some (.ref L), some (.int (0 + (i : Int))), some (.ref p), some (.str w.s), some v]) (S := fun z => z = 1) (T := fun z => 0 ≤ z ∧ z < 25) (U := fun z => 1 ≤ z ∧ z ≤ 25) (evi_c rfl) (evi_take (N := fun z => z = 6 ∨ z = 25) rfl (evi_ix (W := fun z => 0 ≤ z ∧ z < 2) (evk_lst (evis_cons (S := fun z => z = 6 ∨ z = 25) (evi_c (.inl rfl)) (evis_cons (S := fun z => z = 6 ∨ z = 25) (evi_c (.inr rfl)) evis_nil)))
          (evi_take (N := fun z => z = 2) rfl (evi_c rfl) (fun n hn => by subst hn; exact ⟨by decide, by decide⟩) (fun n z hn a b => by subst hn; exact ⟨a, b⟩))
          (fun z hz => ⟨hz.1, by rcases (show z = 0 ∨ z = 1 by omega) with rfl | rfl <;> exact ⟨_, rfl, fun z h => h⟩⟩)) (fun n hn => by rcases hn with rfl | rfl <;> exact ⟨by decide, by decide⟩) (fun n z hn a b => ⟨a, by omega⟩)) (fun a b ha hb => by subst ha; show 1 ≤ 1 + b ∧ 1 + b ≤ 25; omega)) H4 (Keeps.refl p H4) l4 _ fun v5 H5 k5 l5 ⟨z, e5, z1, z2⟩ => ?_
        subst e5
        refine ⟨w, v, n, z.toNat, congrArg (fun y => [V.str w.s, v, V.int y]) (show z = ((z.toNat : Nat) : Int) by omega), gn_keepP g4 l4 k5, po, ao, sz z.toNat (by omega) (by omega), fun H6 x6 => ⟨true, rfl, iteF ?_⟩⟩
        exact ⟨((k3.trans k4).trans k5).trans (keeps_ex x6), pl_ex l5 x6, _, _, rfl⟩
      · obtain ⟨k3, l3, t, t', rfl⟩ := hk
        have x13 : Ex H1 H3 := fun b o hb => k3 b o (x2 b o hb) (ne_of_none hb fp)
        exact ⟨ex_l x13 hS1, x13 _ _ hL1, _, _, _, _, rfl⟩
    · obtain ⟨hS1, hL1, t1, t2, t3, t4, rfl⟩ := hp
      dsimp only
      refine ⟨.ref L, rfl, L, rfl, ⟨_, sq_of hL1⟩, for_list (xs := wv5) (fun _ σ' H' => Ex H1 H' ∧ ∃ t, σ' = [some (.ref a), some (.ref L), t1, t2, t, t4]) ⟨Ex.refl H1, _, rfl⟩ (fun j σ' H' _ hk => sq_of (hk.1 _ _ hL1)) (fun j x σ' H3 hx hk => ?_) (fun σ' H3 hk => ?_)⟩
      · obtain ⟨x3, t, rfl⟩ := hk
        obtain ⟨w, rfl⟩ := wl_mem hx
        refine g_name ?_
        refine ⟨.str w.s, rfl, (evn_lit (K := K) (B := 3000) (m := 1) (e := 0) (σ := [some (.ref a), some (.ref L), t1, t2, some (.str w.s), t4]) (H := H3) ev_c ev_c (by decide) ⟨by decide +kernel, by decide⟩) H3 (Ex.refl H3) _ fun u H4 x4 g4 => ?_⟩
        refine ⟨w, u, (1, 0), 60, rfl, g4, pl_lit (fun _ => by decide) ⟨by decide +kernel, by decide +kernel⟩ (.inr (by decide +kernel)), fun _ => ⟨by decide +kernel, by decide +kernel⟩, sz_lit (by decide) (by decide) (by decide) rfl, fun H5 x5 => ⟨true, rfl, iteF ?_⟩⟩
        refine ⟨.str w.s, rfl, rfl, _, rfl, ?_⟩
        rw [show decide (V.str w.s = V.str "log") = decide (w = .log) from ws_eq w .log]
        by_cases z : w = .log
        · rw [decide_eq_true z]
          exact iteF (iteF ⟨(x3.trans x4).trans x5, _, rfl⟩)
        · rw [decide_eq_false z]
          refine iteT ⟨.str w.s, rfl, (evn_lit (K := K) (B := 3000) (m := 0) (e := 0) (σ := [some (.ref a), some (.ref L), t1, t2, some (.str w.s), t4]) (H := H5) ev_c ev_c (by decide) ⟨by decide +kernel, by decide⟩) H5 (Ex.refl H5) _ fun u6 H6 x6 g6 => ?_⟩
          refine ⟨w, u6, (0, 0), 3, rfl, g6, pl_lit (fun y => absurd y z) ⟨by decide +kernel, by decide +kernel⟩ (.inl rfl), fun _ => ⟨by decide +kernel, by decide +kernel⟩, sz_lit (by decide) (by decide) (by decide) rfl, fun H7 x7 => ⟨true, rfl, iteF ?_⟩⟩
          refine ⟨.str w.s, rfl, (evn_lit (K := K) (B := 3000) (m := -1) (e := 0) (σ := [some (.ref a), some (.ref L), t1, t2, some (.str w.s), t4]) (H := H7) (ev_un ev_c ru_neg) ev_c (by decide) ⟨by decide +kernel, by decide⟩) H7 (Ex.refl H7) _ fun u8 H8 x8 g8 => ?_⟩
          refine ⟨w, u8, (-1, 0), 9, rfl, g8, pl_lit (fun y => absurd y z) ⟨by decide +kernel, by decide +kernel⟩ (.inr (by decide +kernel)), fun _ => ⟨by decide +kernel, by decide +kernel⟩, sz_lit (by decide) (by decide) (by decide) rfl, fun H9 x9 => ⟨true, rfl, iteF ?_⟩⟩
          exact ⟨((((x3.trans x4).trans x5).trans x6).trans x7).trans (x8.trans x9), _, rfl⟩
      · obtain ⟨x3, t, rfl⟩ := hk
        exact q H3
end
/-! ### the head -/
abbrev dP (x : Str) (s : Stmt) (ds : List He.Dv) : He.DefD := ⟨(x, none), x, x, defArgs s, defBody s, defScope s, ds, []⟩
abbrev dK (x : Str) (s : Stmt) (ds : List He.Dv) (kw : List (Str × He.Dv)) : He.DefD := ⟨(x, none), x, x, defArgs s, defBody s, defScope s, ds, kw⟩
abbrev dM (c m x : Str) (s : Stmt) : He.DefD := ⟨(c, some m), m, x, defArgs s, defBody s, defScope s, [], []⟩
def fn : List He.DefD := [dP "is_whole" s_is_whole [], dP "is_whole_within" s_is_whole_within [], dP "need_whole_within" s_need_whole_within [], dP "is_number" s_is_number [], dP "need_number" s_need_number [], dP "compared" s_compared [], dP "size_of" s_size_of [], dP "need_word" s_need_word [], dP "is_between" s_is_between [], dP "is_place" s_is_place [], dP "need_place" s_need_place [], dP "ratio_of" s_ratio_of [], dP "first_power" s_first_power [], dP "argument_of" s_argument_of [], dP "sum_of_terms" s_sum_of_terms [], dP "odd_primes_of_both" s_odd_primes_of_both [], dP "lowest" s_lowest [], dP "need_series" s_need_series [], dP "series_sum" s_series_sum [], dP "_law_mixed" s_law_mixed [], dP "_law_cell" s_law_cell [], dP "_law_take" s_law_take [], dP "_law_odd" s_law_odd [], dP "_law_common" s_law_common [], dP "_law_frac" s_law_frac [], dP "_law_plus" s_law_plus [], dP "_law_part" s_law_part [], dP "_law_term" s_law_term [], dP "_law_drawn" s_law_drawn [], dP "_law_whole" s_law_whole [], dP "_law_good" s_law_good [], dP "law" s_law []]
def fa : List He.Fa := [.glo "is_whole", .glo "is_whole_within", .glo "need_whole_within", .glo "is_number", .glo "need_number", .glo "compared", .glo "size_of", .glo "need_word", .glo "is_between", .glo "is_place", .glo "need_place", .glo "ratio_of", .glo "first_power", .glo "argument_of", .glo "sum_of_terms", .glo "odd_primes_of_both", .glo "lowest", .glo "need_series", .glo "series_sum", .glo "_law_mixed", .glo "_law_cell", .glo "_law_take", .glo "_law_odd", .glo "_law_common", .glo "_law_frac", .glo "_law_plus", .glo "_law_part", .glo "_law_term", .glo "_law_drawn", .glo "_law_whole", .glo "_law_good", .glo "law", .free "isinstance", .free "len", .free "range", .free "int", .free "bool", .free "tuple", .free "str", .free "min", .free "max", .free "abs", .free "all", .glo "SERIES", .glo "ODD_PRIMES", .int "MOST_SIZE" 800, .int "MOST_TERMS" 60]
def tsL : List He.Tab := [(fun K => He.ga K "SERIES", ["exp", "sin", "cos", "arc", "log"])]
def ex (K : PySem.W.Frag) : Bool := (itB K (He.ga K "SERIES") "exp" [.int 0, .int 1, .int 1] && (itB K (He.ga K "SERIES") "sin" [.int 1, .int 2, .int (-1)] && (itB K (He.ga K "SERIES") "cos" [.int 0, .int 2, .int (-1)] && (itB K (He.ga K "SERIES") "arc" [.int 1, .int 2, .int (-1)] && (itB K (He.ga K "SERIES") "log" [.int 1, .int 2, .int 1] && (He.tupB K "ODD_PRIMES" [.int 3, .int 5, .int 7, .int 11, .int 13, .int 17, .int 19, .int 23, .int 29, .int 31, .int 37, .int 41, .int 43, .int 47, .int 53, .int 59, .int 61, .int 67, .int 71, .int 73, .int 79, .int 83, .int 89, .int 97, .int 101, .int 103, .int 107, .int 109, .int 113] && true))))))
abbrev R : PySem.W.OpenRow := PySem.W.OpenLaw.row PySem.Challenge.rw_oncenear_k28_sums_of_series
abbrev hk : PySem.W.Hook := He.hookX 5 fa fn tsL [] ex
def ob (s : PySem.W.SharedT) : He.AlX := He.obsX 5 fa fn tsL [] ex (HandSHeadRun.getT s)
theorem ob_eq (s : PySem.W.SharedT) : ob s = hk.obs s.abs := He.obsX_eq (HandSHeadRun.getT_eq s)
set_option maxHeartbeats 0 in
theorem run (w : World) : HandSHeadRun.RunEq R (PySem.W.view R.prog [47]) hk ob 4000 ((["NoNumber", "NoPlace", "NoWord", "is_whole", "is_whole_within", "need_whole_within", "is_number", "need_number", "compared", "size_of", "need_word", "is_place", "is_between", "need_place", "ratio_of", "series_sum", "need_series", "argument_of", "sum_of_terms", "first_power"] : List PySem.Str) ++ (["lowest", "odd_primes_of_both", "_law_mixed", "_law_cell", "_law_take", "_law_odd", "_law_common", "_law_frac", "_law_plus", "_law_part", "_law_term", "_law_drawn", "_law_whole", "_law_good", "NUMBER_NEEDED", "MOST_SIZE", "MOST_TERMS", "SERIES", "ODD_PRIMES"] : List PySem.Str)) w := by
  refine PySem.W.byRow2 "special-get-raises" (P := fun w => HandSHeadRun.RunEq R (PySem.W.view R.prog [47]) hk ob 4000 ((["NoNumber", "NoPlace", "NoWord", "is_whole", "is_whole_within", "need_whole_within", "is_number", "need_number", "compared", "size_of", "need_word", "is_place", "is_between", "need_place", "ratio_of", "series_sum", "need_series", "argument_of", "sum_of_terms", "first_power"] : List PySem.Str) ++ (["lowest", "odd_primes_of_both", "_law_mixed", "_law_cell", "_law_take", "_law_odd", "_law_common", "_law_frac", "_law_plus", "_law_part", "_law_term", "_law_drawn", "_law_whole", "_law_good", "NUMBER_NEEDED", "MOST_SIZE", "MOST_TERMS", "SERIES", "ODD_PRIMES"] : List PySem.Str)) w) (fun w => ?_) (fun w => ?_) w <;> (intro os; kernel_rfl)
theorem facts {P : Program} {w : World} {K : PySem.W.Frag} {h : Heap} {mg : Str → Option Value} {f : Addr} (X : K.In h) (G : h.Ns mainGlobals mg) (hfa : mg ("law" : Str) = some (.ref f)) (c : He.SaysX fa fn tsL [] ex w h K) :
    ∃ fd : FuncData, (∀ (s : Shared) (v : Value), BindsTo s fd ⟨[v], []⟩ [("_law_script", v)]) ∧ ∀ base : Heap, K.In base → base.Ns mainGlobals mg → FnOk P w K mg base CX0 8 f fd ["_law_script"] (spLaw K) := by
  have cd := c.t.d
  have cm := c.more
  have T : Top mg := ⟨He.free_ok X G (cd.fact 32 (f := .free "isinstance") rfl), He.free_ok X G (cd.fact 33 (f := .free "len") rfl), He.free_ok X G (cd.fact 34 (f := .free "range") rfl), He.free_ok X G (cd.fact 35 (f := .free "int") rfl), He.free_ok X G (cd.fact 36 (f := .free "bool") rfl), He.free_ok X G (cd.fact 37 (f := .free "tuple") rfl), He.free_ok X G (cd.fact 38 (f := .free "str") rfl), He.free_ok X G (cd.fact 39 (f := .free "min") rfl), He.free_ok X G (cd.fact 40 (f := .free "max") rfl), He.free_ok X G (cd.fact 41 (f := .free "abs") rfl), He.free_ok X G (cd.fact 42 (f := .free "all") rfl)⟩
  unfold ex at cm
  obtain ⟨m0, cm⟩ := He.ba cm
  obtain ⟨m1, cm⟩ := He.ba cm
  obtain ⟨m2, cm⟩ := He.ba cm
  obtain ⟨m3, cm⟩ := He.ba cm
  obtain ⟨m4, cm⟩ := He.ba cm
  obtain ⟨m5, cm⟩ := He.ba cm
  obtain ⟨fd0, F0⟩ := cd.def_ 0 (d := dP "is_whole" s_is_whole []) rfl
  obtain ⟨fd1, F1⟩ := cd.def_ 1 (d := dP "is_whole_within" s_is_whole_within []) rfl
  obtain ⟨fd2, F2⟩ := cd.def_ 2 (d := dP "need_whole_within" s_need_whole_within []) rfl
  obtain ⟨fd3, F3⟩ := cd.def_ 3 (d := dP "is_number" s_is_number []) rfl
  obtain ⟨fd4, F4⟩ := cd.def_ 4 (d := dP "need_number" s_need_number []) rfl
  obtain ⟨fd5, F5⟩ := cd.def_ 5 (d := dP "compared" s_compared []) rfl
  obtain ⟨fd6, F6⟩ := cd.def_ 6 (d := dP "size_of" s_size_of []) rfl
  obtain ⟨fd7, F7⟩ := cd.def_ 7 (d := dP "need_word" s_need_word []) rfl
  obtain ⟨fd8, F8⟩ := cd.def_ 8 (d := dP "is_between" s_is_between []) rfl
  obtain ⟨fd9, F9⟩ := cd.def_ 9 (d := dP "is_place" s_is_place []) rfl
  obtain ⟨fd10, F10⟩ := cd.def_ 10 (d := dP "need_place" s_need_place []) rfl
  obtain ⟨fd11, F11⟩ := cd.def_ 11 (d := dP "ratio_of" s_ratio_of []) rfl
  obtain ⟨fd12, F12⟩ := cd.def_ 12 (d := dP "first_power" s_first_power []) rfl
  obtain ⟨fd13, F13⟩ := cd.def_ 13 (d := dP "argument_of" s_argument_of []) rfl
  obtain ⟨fd14, F14⟩ := cd.def_ 14 (d := dP "sum_of_terms" s_sum_of_terms []) rfl
  obtain ⟨fd15, F15⟩ := cd.def_ 15 (d := dP "odd_primes_of_both" s_odd_primes_of_both []) rfl
  obtain ⟨fd16, F16⟩ := cd.def_ 16 (d := dP "lowest" s_lowest []) rfl
  obtain ⟨fd17, F17⟩ := cd.def_ 17 (d := dP "need_series" s_need_series []) rfl
  obtain ⟨fd18, F18⟩ := cd.def_ 18 (d := dP "series_sum" s_series_sum []) rfl
  obtain ⟨fd19, F19⟩ := cd.def_ 19 (d := dP "_law_mixed" s_law_mixed []) rfl
  obtain ⟨fd20, F20⟩ := cd.def_ 20 (d := dP "_law_cell" s_law_cell []) rfl
  obtain ⟨fd21, F21⟩ := cd.def_ 21 (d := dP "_law_take" s_law_take []) rfl
  obtain ⟨fd22, F22⟩ := cd.def_ 22 (d := dP "_law_odd" s_law_odd []) rfl
  obtain ⟨fd23, F23⟩ := cd.def_ 23 (d := dP "_law_common" s_law_common []) rfl
  obtain ⟨fd24, F24⟩ := cd.def_ 24 (d := dP "_law_frac" s_law_frac []) rfl
  obtain ⟨fd25, F25⟩ := cd.def_ 25 (d := dP "_law_plus" s_law_plus []) rfl
  obtain ⟨fd26, F26⟩ := cd.def_ 26 (d := dP "_law_part" s_law_part []) rfl
  obtain ⟨fd27, F27⟩ := cd.def_ 27 (d := dP "_law_term" s_law_term []) rfl
  obtain ⟨fd28, F28⟩ := cd.def_ 28 (d := dP "_law_drawn" s_law_drawn []) rfl
  obtain ⟨fd29, F29⟩ := cd.def_ 29 (d := dP "_law_whole" s_law_whole []) rfl
  obtain ⟨fd30, F30⟩ := cd.def_ 30 (d := dP "_law_good" s_law_good []) rfl
  obtain ⟨fd31, F31⟩ := cd.def_ 31 (d := dP "law" s_law []) rfl
  have e := hfa.symm.trans (He.glo_ok X G (cd.fact 31 (f := .glo "law") rfl))
  cases e
  have b := FunD.bindsA (ps := ["_law_script"]) F31 fun _ _ _ _ _ _ us hl => match us, hl with | [_], _ => rfl
  obtain ⟨tS, m_MOST_SIZE⟩ := He.int_ok X G (cd.fact 45 (f := .int "MOST_SIZE" 800) rfl)
  obtain ⟨tM, m_MOST_TERMS⟩ := He.int_ok X G (cd.fact 46 (f := .int "MOST_TERMS" 60) rfl)
  have C5 : SerC mg K w (He.ga K "SERIES") (He.ga K "ODD_PRIMES") := ⟨He.glo_ok X G (cd.fact 43 (f := .glo "SERIES") rfl), He.glo_ok X G (cd.fact 44 (f := .glo "ODD_PRIMES") rfl), tabK_of c.t 0 rfl (by decide), (fun x => match x with | .exp => itB_ok m0 | .sin => itB_ok m1 | .cos => itB_ok m2 | .arc => itB_ok m3 | .log => itB_ok m4), fun H => He.tupB_ok m5 H⟩
  have kbS := kb_plain (ps := ["word", "number", "many"]) F18 ["many", "number", "word"] (fun zs => zs.reverse) (fun r => r.reverse) (fun _ _ _ _ _ _ ws hl => match ws, hl with | [_, _, _], _ => rfl)
  refine ⟨fd31, fun s v => b s [v] rfl, fun base _ _ => ?_⟩
  have c0 : Cal P w K mg base CX0 1 "is_whole" ["thing"] (spWhole K) _ fd0 := ⟨ok_is_whole T F0, He.glo_ok X G (cd.fact 0 (f := .glo "is_whole") rfl), F0.kp, F0.bindsN fun _ _ _ _ _ _ us hl => match us, hl with | [_], _ => rfl⟩
  have c1 : Cal P w K mg base CX0 2 "is_whole_within" ["thing", "least", "most"] (spWithin K) _ fd1 := ⟨ok_is_whole_within T F1 c0, He.glo_ok X G (cd.fact 1 (f := .glo "is_whole_within") rfl), F1.kp, F1.bindsN fun _ _ _ _ _ _ us hl => match us, hl with | [_, _, _], _ => rfl⟩
  have c2 : Cal P w K mg base CX0 3 "need_whole_within" ["thing", "least", "most"] (spNeedW K) _ fd2 := ⟨ok_need_whole_within T F2 c1, He.glo_ok X G (cd.fact 2 (f := .glo "need_whole_within") rfl), F2.kp, F2.bindsN fun _ _ _ _ _ _ us hl => match us, hl with | [_, _, _], _ => rfl⟩
  have c3 : Cal P w K mg base CX0 1 "is_number" ["thing"] (spNum K) _ fd3 := ⟨ok_is_number T F3, He.glo_ok X G (cd.fact 3 (f := .glo "is_number") rfl), F3.kp, F3.bindsN fun _ _ _ _ _ _ us hl => match us, hl with | [_], _ => rfl⟩
  have c4 : Cal P w K mg base CX0 2 "need_number" ["thing"] (spNeed K) _ fd4 := ⟨ok_need_number T F4 c3, He.glo_ok X G (cd.fact 4 (f := .glo "need_number") rfl), F4.kp, F4.bindsN fun _ _ _ _ _ _ us hl => match us, hl with | [_], _ => rfl⟩
  have c5 : Cal P w K mg base CX0 1 "compared" ["one", "other"] (spOrd K) _ fd5 := ⟨ok_compared T F5, He.glo_ok X G (cd.fact 5 (f := .glo "compared") rfl), F5.kp, F5.bindsN fun _ _ _ _ _ _ us hl => match us, hl with | [_, _], _ => rfl⟩
  have c6 : Cal P w K mg base CX0 1 "size_of" ["number"] (spSize K) _ fd6 := ⟨ok_size_of T F6, He.glo_ok X G (cd.fact 6 (f := .glo "size_of") rfl), F6.kp, F6.bindsN fun _ _ _ _ _ _ us hl => match us, hl with | [_], _ => rfl⟩
  have c7 : Cal P w K mg base CX0 1 "need_word" ["thing", "words"] (spNeedW5 K) _ fd7 := ⟨ok_need_word T F7, He.glo_ok X G (cd.fact 7 (f := .glo "need_word") rfl), F7.kp, F7.bindsN fun _ _ _ _ _ _ us hl => match us, hl with | [_, _], _ => rfl⟩
  have c8 : Cal P w K mg base CX0 2 "is_between" ["number", "least", "most"] (spBetw K) _ fd8 := ⟨ok_is_between T F8 c5, He.glo_ok X G (cd.fact 8 (f := .glo "is_between") rfl), F8.kp, F8.bindsN fun _ _ _ _ _ _ us hl => match us, hl with | [_, _, _], _ => rfl⟩
  have c9 : Cal P w K mg base CX0 3 "is_place" ["word", "number"] (spIsPl K) _ fd9 := ⟨ok_is_place T m_MOST_SIZE F9 c8 c6, He.glo_ok X G (cd.fact 9 (f := .glo "is_place") rfl), F9.kp, F9.bindsN fun _ _ _ _ _ _ us hl => match us, hl with | [_, _], _ => rfl⟩
  have c10 : Cal P w K mg base CX0 4 "need_place" ["word", "number"] (spNeedPl K) _ fd10 := ⟨ok_need_place T F10 c9, He.glo_ok X G (cd.fact 10 (f := .glo "need_place") rfl), F10.kp, F10.bindsN fun _ _ _ _ _ _ us hl => match us, hl with | [_, _], _ => rfl⟩
  have c11 : Cal P w K mg base CX0 1 "ratio_of" ["number"] (spRat K) _ fd11 := ⟨ok_ratio_of T F11, He.glo_ok X G (cd.fact 11 (f := .glo "ratio_of") rfl), F11.kp, F11.bindsN fun _ _ _ _ _ _ us hl => match us, hl with | [_], _ => rfl⟩
  have c12 : Cal P w K mg base CX0 1 "first_power" ["word", "x_top"] spFp _ fd12 := ⟨ok_first_power T C5 F12, He.glo_ok X G (cd.fact 12 (f := .glo "first_power") rfl), F12.kp, F12.bindsN fun _ _ _ _ _ _ us hl => match us, hl with | [_, _], _ => rfl⟩
  have c13 : Cal P w K mg base CX0 2 "argument_of" ["word", "number"] (spArg K) _ fd13 := ⟨ok_argument_of T F13 c11, He.glo_ok X G (cd.fact 13 (f := .glo "argument_of") rfl), F13.kp, F13.bindsN fun _ _ _ _ _ _ us hl => match us, hl with | [_, _], _ => rfl⟩
  have c14 : Cal P w K mg base CX0 3 "sum_of_terms" ["word", "number", "many"] (spSumT K) _ fd14 := ⟨ok_sum_of_terms T C5 F14 c13 c12, He.glo_ok X G (cd.fact 14 (f := .glo "sum_of_terms") rfl), F14.kp, F14.bindsN fun _ _ _ _ _ _ us hl => match us, hl with | [_, _, _], _ => rfl⟩
  have c15 : Cal P w K mg base CX0 1 "odd_primes_of_both" ["top", "bottom"] spOdd _ fd15 := ⟨ok_odd_primes_of_both T C5 F15, He.glo_ok X G (cd.fact 15 (f := .glo "odd_primes_of_both") rfl), F15.kp, F15.bindsN fun _ _ _ _ _ _ us hl => match us, hl with | [_, _], _ => rfl⟩
  have c16 : Cal P w K mg base CX0 2 "lowest" ["top", "bottom"] spLow _ fd16 := ⟨ok_lowest T F16 c15, He.glo_ok X G (cd.fact 16 (f := .glo "lowest") rfl), F16.kp, F16.bindsN fun _ _ _ _ _ _ us hl => match us, hl with | [_, _], _ => rfl⟩
  have c17 : Cal P w K mg base CX0 5 "need_series" ["word", "number", "many"] (spNeedS K) _ fd17 := ⟨ok_need_series T C5 m_MOST_TERMS F17 c7 c4 c2 c10 c8, He.glo_ok X G (cd.fact 17 (f := .glo "need_series") rfl), F17.kp, F17.bindsN fun _ _ _ _ _ _ us hl => match us, hl with | [_, _, _], _ => rfl⟩
  have c18 : Cal P w K mg base CX0 6 "series_sum" ["word", "number", "many"] (spSer K) _ fd18 := ⟨ok_series_sum T F18 c17 c14 c16, He.glo_ok X G (cd.fact 18 (f := .glo "series_sum") rfl), F18.kp, F18.bindsN fun _ _ _ _ _ _ us hl => match us, hl with | [_, _, _], _ => rfl⟩
  have c19 : Cal P w K mg base CX0 1 "_law_mixed" ["_law_cell_here", "_law_k"] spMix _ fd19 := ⟨ok_law_mixed T F19, He.glo_ok X G (cd.fact 19 (f := .glo "_law_mixed") rfl), F19.kp, F19.bindsN fun _ _ _ _ _ _ us hl => match us, hl with | [_, _], _ => rfl⟩
  have c20 : Cal P w K mg base CX0 2 "_law_cell" ["_law_script", "_law_k"] (spCel K) _ fd20 := ⟨ok_law_cell T F20 c19, He.glo_ok X G (cd.fact 20 (f := .glo "_law_cell") rfl), F20.kp, F20.bindsN fun _ _ _ _ _ _ us hl => match us, hl with | [_, _], _ => rfl⟩
  have c21 : Cal P w K mg base CX0 1 "_law_take" ["_law_pile", "_law_size"] spTake _ fd21 := ⟨ok_law_take T F21, He.glo_ok X G (cd.fact 21 (f := .glo "_law_take") rfl), F21.kp, F21.bindsN fun _ _ _ _ _ _ us hl => match us, hl with | [_, _], _ => rfl⟩
  have c22 : Cal P w K mg base CX0 1 "_law_odd" ["_law_m", "_law_e"] spNof _ fd22 := ⟨ok_law_odd T F22, He.glo_ok X G (cd.fact 22 (f := .glo "_law_odd") rfl), F22.kp, F22.bindsN fun _ _ _ _ _ _ us hl => match us, hl with | [_, _], _ => rfl⟩
  have c23 : Cal P w K mg base CX0 1 "_law_common" ["_law_one", "_law_other"] spCom _ fd23 := ⟨ok_law_common T F23, He.glo_ok X G (cd.fact 23 (f := .glo "_law_common") rfl), F23.kp, F23.bindsN fun _ _ _ _ _ _ us hl => match us, hl with | [_, _], _ => rfl⟩
  have c24 : Cal P w K mg base CX0 2 "_law_frac" ["_law_top", "_law_bottom"] spFrc _ fd24 := ⟨ok_law_frac T F24 c23, He.glo_ok X G (cd.fact 24 (f := .glo "_law_frac") rfl), F24.kp, F24.bindsN fun _ _ _ _ _ _ us hl => match us, hl with | [_, _], _ => rfl⟩
  have c25 : Cal P w K mg base CX0 3 "_law_plus" ["_law_one", "_law_other"] (spPlu K) _ fd25 := ⟨ok_law_plus T F25 c24, He.glo_ok X G (cd.fact 25 (f := .glo "_law_plus") rfl), F25.kp, F25.bindsN fun _ _ _ _ _ _ us hl => match us, hl with | [_, _], _ => rfl⟩
  have c26 : Cal P w K mg base CX0 1 "_law_part" ["_law_number_own"] (spPart5 K) _ fd26 := ⟨ok_law_part T F26, He.glo_ok X G (cd.fact 26 (f := .glo "_law_part") rfl), F26.kp, F26.bindsN fun _ _ _ _ _ _ us hl => match us, hl with | [_], _ => rfl⟩
  have c27 : Cal P w K mg base CX0 3 "_law_term" ["_law_word_own", "_law_number_own", "_law_k"] (spTerm K) _ fd27 := ⟨ok_law_term T F27 c26 c24, He.glo_ok X G (cd.fact 27 (f := .glo "_law_term") rfl), F27.kp, F27.bindsN fun _ _ _ _ _ _ us hl => match us, hl with | [_, _, _], _ => rfl⟩
  have c28 : Cal P w K mg base CX0 2 "_law_drawn" ["_law_pile", "_law_word_own"] (spDrawn K) _ fd28 := ⟨ok_law_drawn T F28 c21 c22, He.glo_ok X G (cd.fact 28 (f := .glo "_law_drawn") rfl), F28.kp, F28.bindsN fun _ _ _ _ _ _ us hl => match us, hl with | [_, _], _ => rfl⟩
  have c29 : Cal P w K mg base CX0 1 "_law_whole" ["_law_found"] (spWhole K) _ fd29 := ⟨ok_law_whole T F29, He.glo_ok X G (cd.fact 29 (f := .glo "_law_whole") rfl), F29.kp, F29.bindsN fun _ _ _ _ _ _ us hl => match us, hl with | [_], _ => rfl⟩
  have c30 : Cal P w K mg base CX0 7 "_law_good" ["_law_word_own", "_law_number_own", "_law_most"] (spGood5 K) _ fd30 := ⟨ok_law_good T F30 c25 c27 c18 c29 kbS, He.glo_ok X G (cd.fact 30 (f := .glo "_law_good") rfl), F30.kp, F30.bindsN fun _ _ _ _ _ _ us hl => match us, hl with | [_, _, _], _ => rfl⟩
  exact ok_law T F31 c20 c28 c30 c21
end Onc
open PySem PySem.W PySem.Calls PyProof.Rows
set_option maxRecDepth 100000 in
set_option maxHeartbeats 0 in
theorem PySem.Challenge.cw_oncenear_k28_sums_of_series_holds : PySem.Challenge.rw_oncenear_k28_sums_of_series.Holds := by
  w_on; o_law
  refine HandSHeadRun.head_any (r := OpenLaw.row PySem.Challenge.rw_oncenear_k28_sums_of_series) (q := view (OpenLaw.row PySem.Challenge.rw_oncenear_k28_sums_of_series).prog [47]) (H := Onc.hk) (ob := Onc.ob) (M := 4000) (loose := ((["NoNumber", "NoPlace", "NoWord", "is_whole", "is_whole_within", "need_whole_within", "is_number", "need_number", "compared", "size_of", "need_word", "is_place", "is_between", "need_place", "ratio_of", "series_sum", "need_series", "argument_of", "sum_of_terms", "first_power"] : List PySem.Str) ++ (["lowest", "odd_primes_of_both", "_law_mixed", "_law_cell", "_law_take", "_law_odd", "_law_common", "_law_frac", "_law_plus", "_law_part", "_law_term", "_law_drawn", "_law_whole", "_law_good", "NUMBER_NEEDED", "MOST_SIZE", "MOST_TERMS", "SERIES", "ODD_PRIMES"] : List PySem.Str))) (d := HandSHeadRun.topDef (OpenLaw.row PySem.Challenge.rw_oncenear_k28_sums_of_series).prog 47) (kwd := []) Onc.ob_eq
    (by kernel_rfl) (fun s => by kernel_rfl) Onc.run (by kernel_rfl) (by kernel_rfl) (by kernel_rfl) (by rfl) (by first | assumption | decide +kernel) (by decide +kernel) ⟨rfl, rfl, rfl, rfl, rfl, by decide +kernel⟩ ?hw ?hc
  case hw => w_witness2
  case hc =>
    refine L2.walk_ofE (l := PySem.Challenge.rw_oncenear_k28_sums_of_series) (n := 63) (k := 8) (x := "_law_script") (CX := L2.CX0) rfl (by decide) (by kernel_rfl) ⟨rfl, by decide, by decide⟩ ?F (fun _ _ _ _ z => z)
    intro w mg fa h Y G hmg0
    obtain ⟨K, KX, c⟩ := Y
    have hmg : mg ("law" : PySem.Str) = some (.ref fa) := by
      have e : (HandSHeadRun.topDef (OpenLaw.row PySem.Challenge.rw_oncenear_k28_sums_of_series).prog 47).name = ("law" : PySem.Str) := by kernel_rfl
      rw [← e]
      exact hmg0
    obtain ⟨fd, hb, hF⟩ := Onc.facts (P := (PySem.Challenge.rw_oncenear_k28_sums_of_series).prog) (w := w) KX G hmg c
    exact ⟨K, fd, Onc.spLaw K, KX, hb, fun H a ns hl _ hS => ⟨a, ns, rfl, hS, fun _ => rfl⟩, hF⟩
