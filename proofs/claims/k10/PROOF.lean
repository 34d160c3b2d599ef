import PyProof.Rows.All
import Wide.All
import OpenK.AllK
import Wide.FinOn
import HandS.ForMost
import HandS.WideBits
import HandS.IsInst
import HandS.Strs
import HandS.SetFor
import HandS.Flow
import HandS.Style
import HandS.More
import HandS.Evl
import KE.SortData
import PyProof.ReprRoads
import HandS.Ends
import HandS.Star
import HandS.TupSets
import KE.KeyNested
import HandS.RevRange
import HandS.Conv
import HandS.DictComp
import HandS.TupAny
import HandS.TupMul
import HandS.List
import HandS.Base
import HandS.TryOnly
import KE.GoesMore
import KE.GoesEnum
import HandS.Iter
import HandS.Zip0
import KE.DatumOrd
import HandS.SortKw
import HandS.Deep
import KE.KDictDisplayH
import HandS.Exc
import HandS.ExcOwn
import HandS.ExcInit
import HandS.ExcField
import HandS.TryMany
import HandS.Lambda
import HandS.EndTab
import KE.KNestM
import KE.KLam
import PySem.Challenge.RW_eithersums_k10_least_flats_and_all_flats
set_option Elab.async false
set_option linter.all false
set_option maxRecDepth 100000
set_option maxHeartbeats 4000000
namespace Es
open PySem PySem.Spec PyProof.Rows L2
structure FnG (P : Program) (w : World) (K : PySem.W.Frag) (mg : Str → Option Value) (base : Heap)
    (k : Nat) (f : Addr) (fd : FuncData) (ps : List Str) (sp : Sp) : Prop where
  lenG : ∀ {vs H Q E}, sp vs H Q E → vs.length = ps.length
  runG : ∀ {B : Around} {out : List Env} {t : Shared} {G : Hp} {ar : Args} {xs : List Value} {ys : List V} {R : VK} {E : XK},
    Room k B → B.guards = some [] → Env0 P w K mg base B out t G → BindsTo t fd ar (ps.zip xs) → Vals ys xs → sp ys G R E →
    codeAny (model P w) B (.call (.ref f) ar) (CR CX0 out P w G t R E) t
section
variable {P : Program} {w : World} {K : PySem.W.Frag} {mg : Str → Option Value} {base : Heap}
theorem FnG.up {j k : Nat} {f : Addr} {fd : FuncData} {ps : List Str} {sp : Sp} (F : FnG P w K mg base j f fd ps sp) (h : j ≤ k) :
    FnG P w K mg base k f fd ps sp :=
  ⟨F.lenG, fun hr hg he hb hv hs => F.runG (hr.mono h) hg he hb hv hs⟩
theorem fng_of {k : Nat} {f : Addr} {nm ql : Str} {pr : Arguments} {bd : List Stmt} {sc : Scope} {dV kV doc pm cdv ct oc : Value}
    {an od : Option Addr} {osl : Array (Option Value)} {N ps : List Str} {sp : Sp}
    (look : K.lookup f = some ⟨oc, od, .func (PySem.W.fnOf nm ql pr bd sc dV kV doc pm an cdv ct), osl⟩)
    (cod : PySem.W.codeIn K cdv ql = true) (S : FnScope N ps sc)
    (ln : ∀ {vs H Q E}, sp vs H Q E → vs.length = ps.length)
    (body : ∀ (B : Around) (out : List Env) (t : Shared) (G : Hp) (ys : List V) (R : VK) (E : XK),
      Room k (B.deeper (envOfC ql sc t.heap.objs.size f cdv)) → B.guards = some [] → sp ys G R E →
      ∃ r, PSs (cxOf CX0 P w K mg base N ql sc f cdv B out t G E) bd r ∧ r { nx := fun _ G' => R .non G', rt := R } (start N ys) G) :
    FnG P w K mg base (k + 1) f (PySem.W.fnOf nm ql pr bd sc dV kV doc pm an cdv ct) ps sp := by
  refine ⟨ln, ?_⟩
  intro B out t G ar xs ys R E room gd env0 bind rel want
  have lens := ln want
  have keepB : ∀ b o, base.get? b = some o → t.heap.get? b = some o := fun b o e => (env0.bs b o e).1
  have inK : K.In t.heap := env0.mod.kin.keeps keepB
  have nolim : t.heap.NoLimit := env0.mod.nolimit.keeps keepB
  refine codeAny_call_function room.depth (inK _ _ look) rfl S.co S.gen rfl (PySem.W.codeRec_of inK cod) (bind _ _ _ _ ?_)
  refine wpAny_newFunctionEnv_cells S.kind (fun p hp => ?_) (fun ev hev t1 st => ?_)
  · obtain ⟨n, v⟩ := p
    cases S.par n (List.of_mem_zip hp).1 with
    | inl z => exact Or.inl z
    | inr z => exact Or.inr ⟨z, PySem.W.cellsFrom_some _ _ _ (Or.inl z)⟩
  · subst hev
    refine ⟨nolim.keeps st.toInCall.keep, codeAny_func ?_⟩
    obtain ⟨r, hr1, hr2⟩ := body B out t G ys R E (room.deeper _) gd want
    have J0 : Inv (cxOf CX0 P w K mg base N ql sc f cdv B out t G E) [] (start N ys) G t1 := inv_start S room.hd env0 lens rel st
    refine wpAny_mono (hr1.run [] t1 (start N ys) G _ J0 hr2) ?_ (fun e t2 h2 => h2)
    intro fl t2 h2
    have done : ∀ {σ2 : L2.St} {G2 : Hp} {v : V} {u : Value}, Inv (cxOf CX0 P w K mg base N ql sc f cdv B out t G E) [] σ2 G2 t2 → RelV v u → R v G2 → CE out P w G t R u t2 := by
      intro σ2 G2 v u J rv q
      exact ⟨v, G2, J.os, J.bare, J.base, J.hok, rv, q⟩
    cases fl with
    | next => obtain ⟨σ2, G2, J, q⟩ := h2; exact done (v := V.non) (u := Value.none) J rfl q
    | ret u => obtain ⟨v, σ2, G2, J, rv, q⟩ := h2; exact done J rv q
    | brk => obtain ⟨_, _, _, q⟩ := h2; exact q.elim
    | cont => obtain ⟨_, _, _, q⟩ := h2; exact q.elim
theorem okG {x qual : Str} {st : Stmt} {f : Addr} {fd : FuncData} {N ps : List Str} {k : Nat} {sp : Sp} (F : Fun K x qual st f fd) (S : FnScope N ps (defScope st))
    (ln : ∀ {vs H Q E}, sp vs H Q E → vs.length = ps.length)
    (body : ∀ (cdv : Value) (B : Around) (out : List Env) (t : Shared) (G : Hp) (ys : List V) (R : VK) (E : XK),
      Room k (B.deeper (envOfC qual (defScope st) t.heap.objs.size f cdv)) → (B.deeper (envOfC qual (defScope st) t.heap.objs.size f cdv)).guards = some [] → sp ys G R E →
      ∃ r, PSs (cxOf CX0 P w K mg base N qual (defScope st) f cdv B out t G E).nox (defBody st) r ∧ r { nx := fun _ G' => R .non G', rt := R } (start N ys) G) :
    FnG P w K mg base (k + 1) f fd ps sp := by
  obtain ⟨oc, od, kV, doc, pm, an, cdv, ct, osl, rfl, lk, hcd⟩ := F.ex
  refine fng_of lk hcd S ln ?_
  intro B out t G ys R E hr hg want
  obtain ⟨r, h1, h2⟩ := body cdv B out t G ys R E hr hg want
  exact ⟨r, h1.nox, h2⟩
end
section
variable {X : Cx} {k : Nat} {f : Addr} {fd : FuncData} {ps : List Str} {sp : Sp} {x : Str} {p pos : Pos} {e : Expr} {es : List Expr} {t : TA}
theorem runG_call {pins : List (Addr × Obj)} {σ : L2.St} {H : Hp} {s : Shared} {Q : VK} {us : List Value} {vs : List V} (F : FnG X.prog X.w X.K X.mg X.base k f fd ps sp)
    (hr : Room k X.A) (hg : X.A.guards = some []) (hb : Binds X.K fd ps []) (I : Inv X pins σ H s) (r : Vals vs us) (h : sp vs H Q E0) :
    wpAny (model X.prog X.w) X.A (call (.ref f) us) (EP X pins σ Q) X.xe s := by
  have l1 : (us ++ []).length = ps.length := by
    rw [List.append_nil, ← r.length]
    exact F.lenG h
  have b1 := hb s us I.kIn l1
  rw [List.append_nil] at b1
  refine wpAny_call (codeAny_mono (F.runG hr hg I.env0 b1 r h) ?_)
  intro z s' hz
  cases z with
  | error e => exact False.elim hz
  | ok fl =>
    cases fl with
    | ret u => exact I.after hz
    | next => exact False.elim hz
    | brk => exact False.elim hz
    | cont => exact False.elim hz
theorem pe_callG (F : FnG X.prog X.w X.K X.mg X.base k f fd ps sp) (hr : Room k X.A) (hg : X.A.guards = some []) (hgl : Gl X x) (hm : X.mg x = some (.ref f)) (hk : PySem.W.keepIn X.K (.ref f) = true)
    (hb : Binds X.K fd ps []) (ha : PA X (e :: es) t) (hd : (x == ("__debug__" : Str)) = false := by decide)
    (h1 : starEach (e :: es) X.env = (false, eval e X.env) :: starEach es X.env := by rfl) (h2 : (backTo pos (starEach es X.env)).any (·.1) = false := by rfl) :
    PE X (.Call (.Name x p) (e :: es) [] pos) (tCall sp [] E0 t) := by
  refine ⟨fun pins s σ H Q I h => ?_⟩
  refine wpAny_Call_Name_kw (ld_glob I hgl hm ?_ hd)
  refine PySem.W.callWith_K (h₀ := X.base) I.ok.mod.kin hk ?_ h1 h2
  refine thn (ha.run pos pins s σ H _ I h) ?_
  rintro us s1 ⟨vs, H1, I1, r, q⟩
  refine ⟨I1.kIn, ?_⟩
  have q : sp (vs ++ []) H1 Q E0 := q
  rw [List.append_nil] at q
  exact runG_call F hr hg hb I1 r q
end
end Es
set_option Elab.async false
set_option linter.all false
set_option maxRecDepth 100000
set_option maxHeartbeats 4000000
namespace Es
open PySem PySem.Spec PyProof.Rows L2
def Callee (X : Cx) (k : Nat) (x : Str) (ps : List Str) (sp : Sp) : Prop :=
  ∃ (f : Addr) (fd : FuncData), FnG X.prog X.w X.K X.mg X.base k f fd ps sp ∧ X.mg x = some (.ref f) ∧ PySem.W.keepIn X.K (.ref f) = true ∧ Binds X.K fd ps []
def CalleeOf (P : Program) (w : World) (K : PySem.W.Frag) (mg : Str → Option Value) (base : Heap) (k : Nat) (x : Str) (ps : List Str) (sp : Sp) : Prop :=
  ∃ (f : Addr) (fd : FuncData), FnG P w K mg base k f fd ps sp ∧ mg x = some (.ref f) ∧ PySem.W.keepIn K (.ref f) = true ∧ Binds K fd ps []
section
variable {X : Cx} {k : Nat} {ps : List Str} {sp : Sp} {x : Str} {p pos : Pos} {e : Expr} {es : List Expr} {t : TA}
theorem pe_callC (c : CalleeOf X.prog X.w X.K X.mg X.base k x ps sp) (hr : Room k X.A) (hg : X.A.guards = some []) (hgl : Gl X x) (ha : PA X (e :: es) t) (hd : (x == ("__debug__" : Str)) = false := by decide)
    (h1 : starEach (e :: es) X.env = (false, eval e X.env) :: starEach es X.env := by rfl) (h2 : (backTo pos (starEach es X.env)).any (·.1) = false := by rfl) :
    PE X (.Call (.Name x p) (e :: es) [] pos) (tCall sp [] E0 t) := by
  obtain ⟨f, fd, F, hm, hk, hb⟩ := c
  exact pe_callG F hr hg hgl hm hk hb ha hd h1 h2
end
mutual
def nice : PyData → Bool
  | .none => true
  | .bool _ => true
  | .int i => decide (i.natAbs < 10 ^ 12)
  | .str x => PyData.strOk x && x.cps.toList.all fun c => decide (c < 16 ^ 8)
  | .list xs => niceAll xs
  | .tuple xs => niceAll xs
  | .dict _ => false
def niceAll : List PyData → Bool
  | [] => true
  | x :: xs => nice x && niceAll xs
end
theorem niceAll_iff : ∀ {xs : List PyData}, niceAll xs = true ↔ ∀ x ∈ xs, nice x = true
  | [] => by simp [niceAll]
  | x :: xs => by simp [niceAll, niceAll_iff (xs := xs)]
theorem log_nice {i : Int} (h : i.natAbs < 10 ^ 12) : i.natAbs.log2 < 1920 := by
  by_cases h0 : i.natAbs = 0
  · rw [h0]
    decide
  · have : i.natAbs.log2 < 40 := (Nat.log2_lt h0).mpr (Nat.lt_of_lt_of_le h (by decide))
    omega
mutual
theorem nice_facts : ∀ d : PyData, nice d = true → d.canLay0 = true ∧ d.showable = true ∧ d.hasDict = false ∧ d.leavesShort 13 = true
  | .none, _ => by decide
  | .bool b, _ => by cases b <;> decide
  | .int i, h => by
    have h : i.natAbs < 10 ^ 12 := of_decide_eq_true h
    refine ⟨?_, decide_eq_true (log_nice h), rfl, decide_eq_true (PyData.shown_int_le h)⟩
    simp [PyData.canLay0]
  | .str x, h => by
    have h : (PyData.strOk x && x.cps.toList.all fun c => decide (c < 16 ^ 8)) = true := h
    rw [Bool.and_eq_true] at h
    exact ⟨by simpa [PyData.canLay0] using h.1, rfl, rfl, h.2⟩
  | .list xs, h => by
    obtain ⟨a, b, c, d⟩ := niceAll_facts xs h
    exact ⟨by simpa [PyData.canLay0] using a, b, c, d⟩
  | .tuple xs, h => by
    obtain ⟨a, b, c, d⟩ := niceAll_facts xs h
    exact ⟨by simpa [PyData.canLay0] using a, b, c, d⟩
  | .dict _, h => by cases h
theorem niceAll_facts : ∀ xs : List PyData, niceAll xs = true → PyData.canLayAll0 xs = true ∧ PyData.showableAll xs = true ∧ PyData.hasDictAll xs = false ∧ PyData.leavesShortAll 13 xs = true
  | [], _ => by decide
  | x :: xs, h => by
    have h : (nice x && niceAll xs) = true := h
    rw [Bool.and_eq_true] at h
    obtain ⟨a, b, c, d⟩ := nice_facts x h.1
    obtain ⟨a2, b2, c2, d2⟩ := niceAll_facts xs h.2
    refine ⟨by simp [PyData.canLayAll0, a, a2], by simp [PyData.showableAll, b, b2], by simp [PyData.hasDictAll, c, c2], by simp [PyData.leavesShortAll, d, d2]⟩
end
theorem nice_shaped {d : PyData} (h : nice d = true) (hd : d.depth ≤ 40) : SeqAt.shaped d = true := by
  unfold SeqAt.shaped
  rw [(nice_facts d h).1, Bool.true_and]
  exact decide_eq_true (by omega)
section
variable {X : Cx}
def rAtL (K : PySem.W.Frag) : V → V → Hp → VK → Prop := fun x y H Q => ∃ (p : Addr) (xs : List V) (i : Nat) (v : V), x = .ref p ∧ y = .int (i : Int) ∧ SqL K H p xs ∧ xs[i]? = some v ∧ Q v H
theorem get_list : PGet X (rAtL X.K) := by
  intro pins s σ H o i ov iv Q I ro ri h
  obtain ⟨p, xs, j, v, rfl, rfl, hs, ha, q⟩ := h
  cases ro
  obtain ⟨t, rfl⟩ := ri
  obtain ⟨its, r, pl, hz⟩ := I.list hs
  obtain ⟨u, hu, ru⟩ := r.get ha
  have hj : j < its.length := (List.getElem?_eq_some_iff.mp hu).1
  have hl := r.length
  have hn := line63
  refine wpAny_getItem_list (x := u) pl.isList (by omega) ?_ (by simpa using hu) ⟨v, H, I, ru, q⟩
  omega
def rReprN (K : PySem.W.Frag) : List V → Hp → VK → Prop := fun xs H Q =>
  ∃ v d, xs = [v] ∧ Dp K H v d ∧ nice d = true ∧ d.depth ≤ 40 ∧ d.weight ≤ 2 ^ 20 ∧ Q (.str d.shown) H
theorem cr_repr (hg : X.A.guards = some []) (hu : X.A.units + 64 < cLine) : CallR X (.builtin "repr") (rReprN X.K) := by
  intro pins s σ H xs us Q I r h
  obtain ⟨v, d, rfl, hd, ni, dp, wt, q⟩ := h
  obtain ⟨u, rfl, ru⟩ := vals1 r
  obtain ⟨c1, c2, c3, c4⟩ := nice_facts d ni
  have fit : d.shown.length ≤ sizeLine := PyData.shown_fits (B := 13) (by decide) (by decide) c4 wt
  obtain ⟨as, rd⟩ := Dp.reads I d v u hd ru
  have endIt : ∀ (h' : Heap) (w tk : Tok), (∀ b o, s.heap.get? b = some o → h'.get? b = some o) → EP X pins σ Q (.str d.shown w) { s with heap := h', toks := tk } :=
    fun h' w tk k => ⟨.str d.shown, H, I.kept k, ⟨w, rfl⟩, q⟩
  cases hd with
  | non =>
    cases ru
    refine PySem.P.repr_of_none ?_
    have := endIt s.heap s.toks (s.toks + 1) fun _ _ e => e
    rwa [PyData.shown_none] at this
  | bl b =>
    cases ru
    refine PySem.P.repr_of_bool ?_
    have := endIt s.heap s.toks (s.toks + 1) fun _ _ e => e
    rwa [PyData.shown_bool] at this
  | int i =>
    obtain ⟨t, rfl⟩ := ru
    refine PySem.P.repr_of_int (log_nice (of_decide_eq_true ni)) ?_
    have := endIt s.heap s.toks (s.toks + 1) fun _ _ e => e
    rwa [PyData.shown_int] at this
  | str x =>
    obtain ⟨t, rfl⟩ := ru
    refine PySem.P.repr_of_str ?_ (by rw [← PyData.shown_str]; exact fit)
    have := endIt s.heap s.toks (s.toks + 1) fun _ _ e => e
    rwa [PyData.shown_str] at this
  | lst h1 h2 =>
    cases ru
    exact repr_of_reads' rd c2 (PyData.noDict_hsm c3) hg (by omega) (fun _ _ e => e) endIt fit
  | tup h1 h2 =>
    cases ru
    exact repr_of_reads' rd c2 (PyData.noDict_hsm c3) hg (by omega) (fun _ _ e => e) endIt fit
def rSetI (K : PySem.W.Frag) (w : World) : List V → Hp → VK → Prop := fun xs H Q =>
  ∃ (a : Addr) (ns : List Int), xs = [.ref a] ∧ SqT K H a (ns.map V.int) ∧ ns.length ≤ 1000 ∧
    ∀ p c, H p = none → c ≤ ns.length → Q (.ref p) (upd H p (SetO w p (fun j => decide (j ∈ ns)) c))
theorem cr_setSeq (hc : X.calm = true) : CallR X (.type "set") (rSetI X.K X.w) := by
  intro pins s σ H xs us Q I r h
  obtain ⟨a, ns, rfl, ht, hl, q⟩ := h
  rw [Vals.ref1 r]
  obtain ⟨its, rv, pt, hz⟩ := I.tuple ht
  have hi : IntsAre its.toArray.toList ns := ints_of_vals rv
  refine call_set_tupI ns (I.ok.hd hc) (show s.heap.IsTuple a its.toArray from pt) hi (by unfold scanBound; omega) ?_
  intro h' tk c R1 hcn kp
  refine ⟨.ref s.heap.objs.size, upd H s.heap.objs.size (SetO X.w s.heap.objs.size (fun j => decide (j ∈ ns)) c), ?_, rfl, q _ c (I.hok.fresh (Nat.le_refl _)) hcn⟩
  exact I.laid (t' := tk) kp (Nat.le_refl _) (setO_new R1)
def rSortedData (K : PySem.W.Frag) : List V → Hp → VK → Prop := fun xs H Q =>
  ∃ (a : Addr) (bs : List (V × PyData)), xs = [.ref a] ∧ SqL K H a (bs.map (·.1)) ∧ (∀ b ∈ bs, Dp K H b.1 b.2) ∧ PySem.W.AllAlike (bs.map (·.2)) ∧ PySem.W.Sortable (bs.map (·.2)) ∧ (∀ b ∈ bs, b.2.depth ≤ 40) ∧
    ∀ p, H p = none → Q (.ref p) (upd H p (.lst ((bs.mergeSort (PySem.W.dataLe false (·.2))).map (·.1))))
theorem each_of {K : PySem.W.Frag} {H : Hp} {pins : List (Addr × Obj)} {σ : L2.St} {s : Shared} (I : Inv X pins σ H s) : ∀ (bs : List (V × PyData)) (its : List Value), Vals (bs.map (·.1)) its → (∀ b ∈ bs, Dp X.K H b.1 b.2) →
    PySem.W.EachIs (fun u (b : V × PyData) => RelV b.1 u) its bs ∧ PySem.W.EachIs (fun u (b : V × PyData) => ∃ as, Reads s.heap u b.2 as) its bs
  | [], _, r, _ => by
    cases r
    exact ⟨.nil, .nil⟩
  | b :: bs, _, r, h => by
    cases r with
    | cons r1 r2 =>
      obtain ⟨e1, e2⟩ := each_of (K := K) I bs _ r2 fun x hx => h x (List.mem_cons_of_mem _ hx)
      exact ⟨.cons r1 e1, .cons (Dp.reads I _ _ _ (h b List.mem_cons_self) r1) e2⟩
theorem vals_each : ∀ {out : List Value} {bs : List (V × PyData)}, PySem.W.EachIs (fun u (b : V × PyData) => RelV b.1 u) out bs → Vals (bs.map (·.1)) out
  | _, _, .nil => .nil
  | _, _, .cons r t => .cons r (vals_each t)
theorem cr_sortedData (hu : X.A.units + 64 < cLine) : CallR X (.builtin "sorted") (rSortedData X.K) := by
  intro pins s σ H xs us Q I r h
  obtain ⟨a, bs, rfl, hs, hd, al, so, dp, q⟩ := h
  rw [Vals.ref1 r]
  obtain ⟨its, rv, pl, hz⟩ := I.list hs
  obtain ⟨e1, e2⟩ := each_of (K := X.K) I bs its rv hd
  have hz2 : bs.length ≤ sizeLine := by
    rw [List.length_map] at hz
    exact hz
  refine PySem.W.sorted_data pl.isList e1 e2 al so hz2 (fun b hb => by have := dp b hb; omega) ?_
  intro out ho eo
  have ro := vals_each eo
  obtain ⟨c, hc⟩ := sortedAll_at s.heap its out.toArray
  refine ⟨.ref (s.heap.objs.size + 1), upd H (s.heap.objs.size + 1) (.lst ((bs.mergeSort (PySem.W.dataLe false (·.2))).map (·.1))), ?_, rfl, q _ (I.hok.fresh (Nat.le_succ _))⟩
  refine I.laid (t' := s.toks) (fun _ _ => sortedAll_old) (Nat.le_succ _) ⟨?_, out, c, ro, hc⟩
  rw [List.length_map, List.length_mergeSort]
  exact hz2
end
end Es
set_option Elab.async false
set_option linter.all false
set_option maxRecDepth 100000
set_option maxHeartbeats 4000000
namespace Es
open PySem PySem.Spec PyProof.Rows L2
theorem lawG_at {P : Program} {w : World} {K : PySem.W.Frag} {mg mb : Str → Option Value} {k : Nat} {fa a : Addr} {fd : FuncData} {x : Str} {sp : Sp} {t : Shared} {xs : List Value}
    (inK : K.In t.heap) (gns : t.heap.Ns mainGlobals mg) (bns : t.heap.Ns builtinsNs mb) (bst : ∀ x : Str, x ≠ "__name__" → mb x = bootBuiltins x) (lim : t.heap.NoLimit) (gen : t.gens = #[])
    (scr : t.heap.get? a = some { cls := .type "list", data := .seq xs.toArray }) (room : Room k callerA)
    (F : ∀ base : Heap, K.In base → base.Ns mainGlobals mg → FnG P w K mg base k fa fd [x] sp) (bind : ∀ (s : Shared) (u : Value), BindsTo s fd ⟨[u], []⟩ [(x, u)])
    (H : Hp) (only : Only H) (held : HOk P w H t.heap) (atA : ∀ b o, H b = some o → b = a) (notK : ∀ o, H a = some o → K.lookup a = none)
    (want : sp [.ref a] H (fun v _ => v = .bl true) E0) :
    codeAny (model P w) callerA (.call (.ref fa) ⟨[.ref a], []⟩) (fun r s' => r = .ok (.ret (.bool true)) ∧ PySem.OldK t.heap s'.heap ∧ s'.os = t.os ∧ AllBare s'.gens) t := by
  have seen : ∀ {b : Addr} {o : Obj}, t.heap.get? b = some o → (b = a → False) → (hidT t.heap H).get? b = some o := by
    intro b o e nb
    refine hidT_get e ?_
    cases hb : H b with
    | none => rfl
    | some u => exact (nb (atA b u hb)).elim
  have dictSeen : ∀ {b : Addr} {m : Str → Option Value}, t.heap.Ns b m → (hidT t.heap H).Ns b m := by
    rintro b m ⟨o, es, ep, e, d, more⟩
    refine ⟨o, es, ep, seen e ?_, d, more⟩
    rintro rfl
    rw [scr] at e
    cases e
    cases d
  have inB : K.In (hidT t.heap H) := by
    intro b o e
    cases hb : H b with
    | none => exact hidT_get (inK b o e) hb
    | some u =>
      have ab := atA b u hb
      subst ab
      rw [notK u hb] at e
      cases e
  obtain ⟨mc, lm1, lm2⟩ := lim
  have md : Mod K mg (hidT t.heap H) := ⟨inB, dictSeen gns, ⟨mb, dictSeen bns, bst⟩, ⟨mc, dictSeen lm1, lm2⟩⟩
  have env : Env0 P w K mg (hidT t.heap H) callerA [] t H :=
    ⟨rfl, md, fun _ _ e => of_hidT e, Nat.le_of_eq (hidT_size _ _), trivial, (fun b hb => by cases hb), held, .of_eq gen⟩
  have run := (F _ inB (dictSeen gns)).runG (out := []) (t := t) (G := H) (ar := ⟨[.ref a], []⟩) (xs := [.ref a]) (ys := [.ref a]) room rfl env (bind t (.ref a)) (.cons rfl .nil) want
  refine codeAny_mono run ?_
  intro r s' h
  cases r with
  | error e => exact False.elim h
  | ok fl =>
    cases fl with
    | next => exact False.elim h
    | brk => exact False.elim h
    | cont => exact False.elim h
    | ret u =>
      obtain ⟨v, H', os, bare, un, held', rel, q⟩ := h
      have q : v = .bl true := q
      subst q
      have rel : u = Value.bool true := rel
      subst rel
      refine ⟨rfl, PySem.OldK.of_keep ?_, os, bare⟩
      intro b o e
      cases hb : H b with
      | none => exact un.keep b o e hb (fun z => by cases z) (fun z => by cases z)
      | some y =>
        rcases only b with z | ⟨ob, ls, z⟩
        · rw [hb] at z
          cases z
        · obtain ⟨g1, _⟩ := held b _ z
          obtain ⟨g2, _⟩ := held' b _ (un.frzs b ob _ z)
          rw [e] at g1
          cases g1
          exact g2
theorem walkG {l : PySem.W.OpenLaw} {n k : Nat} {q : Program} {loose : List Str} {XP : (Str → Option Value) → Heap → Prop} {YP : World → Heap → Prop} {d : PySem.DefRec} {K : Params → PySem.W.Frag} {sp : PySem.W.Frag → Sp} {x : Str}
    (hn : l.most = some n) (hn2 : n ≤ sizeLine) (hdf : d.params.defaults = []) (hr : Room k callerA)
    (hY : ∀ (w : World) (h : Heap), YP w h → (K w.params).In h)
    (F : ∀ (w : World) (mg : Str → Option Value) (fa : Addr) (h : Heap), (K w.params).In h → h.Ns mainGlobals mg → mg d.name = some (.ref fa) →
      ∃ fd : FuncData, (∀ (s : Shared) (u : Value), BindsTo s fd ⟨[u], []⟩ [(x, u)]) ∧
        ∀ base : Heap, (K w.params).In base → base.Ns mainGlobals mg → FnG l.prog w (K w.params) mg base k fa fd [x] (sp (K w.params)))
    (hsp : ∀ (K : PySem.W.Frag) (H : Hp) (a : Addr) (ns : List Int), ns.length ≤ n → SqL K H a (ns.map V.int) → sp K [.ref a] H (fun v _ => v = .bl true) E0) :
    PySem.W.WalkO q loose XP YP l.row.toRowW d [] (fun f vs => PySem.call f vs) := by
  refine Att.attach_call hn hdf ?_
  intro w s₀ t mg mb fa o pm cd doc a xs ns G Y ho hd hcd hmg scr hints len gen
  have inK := hY w _ Y
  obtain ⟨fd, bind, FF⟩ := F w mg fa _ inK G.T.g hmg
  have vals := vals_ints hints
  have lens := hints.length
  have lenX : xs.length ≤ sizeLine := by omega
  cases hk : (K w.params).lookup a with
  | some ob =>
    have e := inK a ob hk
    rw [scr] at e
    cases e
    refine lawG_at inK G.T.g G.T.b G.T.builtins G.T.nolimit gen scr hr FF bind (fun _ => none) (fun _ => .inl rfl) (fun _ _ z => by cases z) (fun _ _ z => by cases z) (fun _ z => by cases z) ?_
    refine hsp _ _ a ns len (.inr ⟨_, xs.toArray, _, hk, rfl, rfl, rfl, ?_, ?_⟩)
    · rw [List.size_toArray]
      exact lenX
    · simpa using vals
  | none =>
    refine lawG_at inK G.T.g G.T.b G.T.builtins G.T.nolimit gen scr hr FF bind
      (fun b => if b = a then some (.frz { cls := .type "list", data := .seq xs.toArray } (.lst (ns.map V.int))) else none) ?_ ?_ ?_ (fun _ _ => hk) ?_
    · intro b
      by_cases hb : b = a
      · exact .inr ⟨_, _, if_pos hb⟩
      · exact .inl (if_neg hb)
    · intro b u z
      by_cases hb : b = a
      · have z2 := (if_pos hb).symm.trans z
        cases z2
        subst hb
        refine ⟨scr, ?_, xs, _, vals, scr⟩
        rw [List.length_map]
        omega
      · have z2 := (if_neg hb).symm.trans z
        cases z2
    · intro b u z
      by_cases hb : b = a
      · exact hb
      · have z2 := (if_neg hb).symm.trans z
        cases z2
    · exact hsp _ _ a ns len (.inl (.inr ⟨_, if_pos rfl⟩))
end Es
namespace Es
def bts (m : Nat) : List Nat := (List.range 63).filter fun u => m.testBit u
theorem mem_bts {m u : Nat} : u ∈ bts m ↔ u < 63 ∧ m.testBit u = true := by simp [bts]
theorem bts_lt (m : Nat) : (bts m).Pairwise (· < ·) := List.Pairwise.filter _ List.pairwise_lt_range
theorem bts_len (m : Nat) : (bts m).length ≤ 63 := by
  have := List.length_filter_le (fun u => m.testBit u) (List.range 63)
  simpa [bts] using this
theorem bts_zero : bts 0 = [] := by simp [bts]
theorem bit_ge {m u : Nat} (h : m < 2 ^ 63) (hu : 63 ≤ u) : m.testBit u = false :=
  Nat.testBit_lt_two_pow (Nat.lt_of_lt_of_le h (Nat.pow_le_pow_right (by decide) hu))
theorem mask_ext {a b : Nat} (ha : a < 2 ^ 63) (hb : b < 2 ^ 63) (h : ∀ u, u < 63 → a.testBit u = b.testBit u) : a = b := by
  refine Nat.eq_of_testBit_eq fun u => ?_
  by_cases hu : u < 63
  · exact h u hu
  · rw [bit_ge ha (by omega), bit_ge hb (by omega)]
theorem bts_inj {a b : Nat} (ha : a < 2 ^ 63) (hb : b < 2 ^ 63) (h : bts a = bts b) : a = b := by
  refine mask_ext ha hb fun u hu => ?_
  have h1 : u ∈ bts a ↔ u ∈ bts b := by rw [h]
  rw [mem_bts, mem_bts] at h1
  cases x : a.testBit u <;> cases y : b.testBit u <;> simp_all
theorem asc_unique : ∀ {a b : List Nat}, a.Pairwise (· < ·) → b.Pairwise (· < ·) → (∀ u, u ∈ a ↔ u ∈ b) → a = b
  | [], [], _, _, _ => rfl
  | [], y :: b, _, _, h => by have := (h y).mpr List.mem_cons_self; cases this
  | x :: a, [], _, _, h => by have := (h x).mp List.mem_cons_self; cases this
  | x :: a, y :: b, ha, hb, h => by
    obtain ⟨a1, a2⟩ := List.pairwise_cons.mp ha
    obtain ⟨b1, b2⟩ := List.pairwise_cons.mp hb
    have e : x = y := by
      rcases List.mem_cons.mp ((h x).mp List.mem_cons_self) with e | m
      · exact e
      · rcases List.mem_cons.mp ((h y).mpr List.mem_cons_self) with e | m2
        · exact e.symm
        · have := a1 _ m2; have := b1 _ m; omega
    subst e
    refine congrArg (x :: ·) (asc_unique a2 b2 fun u => ?_)
    constructor
    · intro m
      rcases List.mem_cons.mp ((h u).mp (List.mem_cons_of_mem _ m)) with e | m2
      · have := a1 _ m; omega
      · exact m2
    · intro m
      rcases List.mem_cons.mp ((h u).mpr (List.mem_cons_of_mem _ m)) with e | m2
      · have := b1 _ m; omega
      · exact m2
theorem bts_of {l : List Nat} {m : Nat} (hl : l.Pairwise (· < ·)) (h : ∀ u, u ∈ l ↔ u < 63 ∧ m.testBit u = true) : l = bts m :=
  asc_unique hl (bts_lt m) fun u => by rw [h, mem_bts]
theorem bts_nil {m : Nat} (hm : m < 2 ^ 63) (h : bts m = []) : m = 0 :=
  bts_inj hm (by decide) (by rw [h, bts_zero])
theorem xor_lt {a b : Nat} (ha : a < 2 ^ 63) (hb : b < 2 ^ 63) : a ^^^ b < 2 ^ 63 := Nat.xor_lt_two_pow ha hb
def low (m : Nat) : Option Nat := (bts m).head?
theorem low_iff {m h : Nat} : low m = some h ↔ h < 63 ∧ m.testBit h = true ∧ ∀ j, j < h → m.testBit j = false := by
  unfold low
  cases e : bts m with
  | nil =>
    constructor
    · intro q; cases q
    · rintro ⟨h1, h2, _⟩
      have : h ∈ bts m := mem_bts.mpr ⟨h1, h2⟩
      rw [e] at this; cases this
  | cons x r =>
    have hx : x ∈ bts m := by rw [e]; exact List.mem_cons_self
    have hp := bts_lt m
    rw [e] at hp
    obtain ⟨p1, _⟩ := List.pairwise_cons.mp hp
    obtain ⟨x1, x2⟩ := mem_bts.mp hx
    have least : ∀ j, j < x → m.testBit j = false := by
      intro j hj
      cases q : m.testBit j with
      | false => rfl
      | true =>
        have : j ∈ bts m := mem_bts.mpr ⟨by omega, q⟩
        rw [e] at this
        rcases List.mem_cons.mp this with z | z
        · omega
        · have := p1 _ z; omega
    constructor
    · intro q
      have q : x = h := Option.some.inj q
      subst q
      exact ⟨x1, x2, least⟩
    · rintro ⟨h1, h2, h3⟩
      show some x = some h
      have : ¬ x < h := fun z => by have := h3 x z; rw [x2] at this; cases this
      have : ¬ h < x := fun z => by have := least h z; rw [h2] at this; cases this
      congr 1; omega
theorem low_none {m : Nat} (hm : m < 2 ^ 63) : low m = none ↔ m = 0 := by
  constructor
  · intro h
    exact bts_nil hm (List.head?_eq_none_iff.mp h)
  · rintro rfl
    rfl
theorem low_some {m : Nat} (hm : m < 2 ^ 63) (h : m ≠ 0) : ∃ k, low m = some k := by
  cases e : low m with
  | none => exact absurd ((low_none hm).mp e) h
  | some k => exact ⟨k, rfl⟩
theorem low_xor {a b h k : Nat} (ha : low a = some h) (hb : low b = some k) (hk : h < k) : low (a ^^^ b) = some h := by
  obtain ⟨a1, a2, a3⟩ := low_iff.mp ha
  obtain ⟨b1, b2, b3⟩ := low_iff.mp hb
  refine low_iff.mpr ⟨a1, ?_, fun j hj => ?_⟩
  · rw [Nat.testBit_xor, a2, b3 h hk]; rfl
  · rw [Nat.testBit_xor, a3 j hj, b3 j (by omega)]; rfl
theorem low_xor_same {a b h k : Nat} (ha : low a = some h) (hb : low b = some h) (hk : low (a ^^^ b) = some k) : h < k := by
  obtain ⟨a1, a2, a3⟩ := low_iff.mp ha
  obtain ⟨b1, b2, b3⟩ := low_iff.mp hb
  obtain ⟨k1, k2, k3⟩ := low_iff.mp hk
  rw [Nat.testBit_xor] at k2
  by_cases e : k = h
  · subst e
    rw [a2, b2] at k2
    cases k2
  · have : ¬ k < h := fun z => by
      rw [a3 k z, b3 k z] at k2
      cases k2
    omega
def Spn : List Nat → Nat → Prop
  | [], x => x = 0
  | m :: ms, x => Spn ms x ∨ Spn ms (x ^^^ m)
theorem xx (a b : Nat) : a ^^^ b ^^^ b = a := by rw [Nat.xor_assoc, Nat.xor_self, Nat.xor_zero]
theorem Spn.zero : ∀ ms, Spn ms 0
  | [] => rfl
  | _ :: ms => .inl (Spn.zero ms)
theorem Spn.xor : ∀ {ms : List Nat} {x y : Nat}, Spn ms x → Spn ms y → Spn ms (x ^^^ y)
  | [], x, y, hx, hy => by
    have hx : x = 0 := hx
    have hy : y = 0 := hy
    subst hx; subst hy; rfl
  | m :: ms, x, y, hx, hy => by
    rcases hx with hx | hx <;> rcases hy with hy | hy
    · exact .inl (Spn.xor hx hy)
    · refine .inr ?_
      rw [Nat.xor_assoc]
      exact Spn.xor hx hy
    · refine .inr ?_
      rw [Nat.xor_assoc, Nat.xor_comm y m, ← Nat.xor_assoc]
      exact Spn.xor hx hy
    · refine .inl ?_
      have := Spn.xor hx hy
      rwa [Nat.xor_comm y m, ← Nat.xor_assoc, Nat.xor_assoc x m m, Nat.xor_self, Nat.xor_zero] at this
theorem Spn.mem : ∀ {ms : List Nat} {x : Nat}, x ∈ ms → Spn ms x
  | m :: ms, x, h => by
    rcases List.mem_cons.mp h with e | h
    · subst e
      exact .inr (by rw [Nat.xor_self]; exact Spn.zero ms)
    · exact .inl (Spn.mem h)
theorem Spn.sub : ∀ {as bs : List Nat} {x : Nat}, (∀ a ∈ as, Spn bs a) → Spn as x → Spn bs x
  | [], bs, x, _, h => by
    have h : x = 0 := h
    subst h
    exact Spn.zero bs
  | a :: as, bs, x, hs, h => by
    have ht : ∀ c ∈ as, Spn bs c := fun c hc => hs c (List.mem_cons_of_mem _ hc)
    rcases h with h | h
    · exact Spn.sub ht h
    · have h1 := Spn.sub ht h
      have h2 := Spn.xor h1 (hs a List.mem_cons_self)
      rwa [xx] at h2
theorem Spn.left {as bs : List Nat} {x : Nat} (h : Spn as x) : Spn (as ++ bs) x := Spn.sub (fun _ ha => Spn.mem (List.mem_append_left _ ha)) h
theorem Spn.bits0 {h : Nat} : ∀ {ms : List Nat} {x : Nat}, (∀ m ∈ ms, m.testBit h = false) → Spn ms x → x.testBit h = false
  | [], x, _, hx => by
    have hx : x = 0 := hx
    subst hx; simp
  | m :: ms, x, hm, hx => by
    have ht : ∀ c ∈ ms, c.testBit h = false := fun c hc => hm c (List.mem_cons_of_mem _ hc)
    rcases hx with hx | hx
    · exact Spn.bits0 ht hx
    · have := Spn.bits0 ht hx
      rw [Nat.testBit_xor, hm m List.mem_cons_self] at this
      simpa using this
theorem Spn.lt : ∀ {ms : List Nat} {x : Nat}, (∀ m ∈ ms, m < 2 ^ 63) → Spn ms x → x < 2 ^ 63
  | [], x, _, h => by
    have h : x = 0 := h
    subst h; decide
  | m :: ms, x, hm, h => by
    have ht : ∀ c ∈ ms, c < 2 ^ 63 := fun c hc => hm c (List.mem_cons_of_mem _ hc)
    rcases h with h | h
    · exact Spn.lt ht h
    · have := xor_lt (Spn.lt ht h) (hm m List.mem_cons_self)
      rwa [xx] at this
def xsum (f : Nat → Nat) : Nat → Nat
  | 0 => 0
  | n + 1 => xsum f n ^^^ f n
def pick (ms : List Nat) (u : Nat) : Nat := xsum (fun k => if u.testBit k then ms.getD k 0 else 0) 63
theorem xsum_xor (f g h : Nat → Nat) : ∀ n, (∀ k, k < n → h k = f k ^^^ g k) → xsum h n = xsum f n ^^^ xsum g n
  | 0, _ => by show (0 : Nat) = 0 ^^^ 0; simp
  | n + 1, e => by
    have ih := xsum_xor f g h n fun k hk => e k (by omega)
    show xsum h n ^^^ h n = (xsum f n ^^^ f n) ^^^ (xsum g n ^^^ g n)
    rw [ih, e n (by omega)]
    rw [Nat.xor_assoc, Nat.xor_assoc]
    congr 1
    rw [← Nat.xor_assoc, ← Nat.xor_assoc, Nat.xor_comm (xsum g n) (f n)]
theorem xsum_congr {f g : Nat → Nat} : ∀ n, (∀ k, k < n → f k = g k) → xsum f n = xsum g n
  | 0, _ => rfl
  | n + 1, e => by
    show xsum f n ^^^ f n = xsum g n ^^^ g n
    rw [xsum_congr n fun k hk => e k (by omega), e n (by omega)]
theorem pick_xor (ms : List Nat) (u v : Nat) : pick ms (u ^^^ v) = pick ms u ^^^ pick ms v := by
  refine xsum_xor _ _ _ 63 fun k _ => ?_
  rw [Nat.testBit_xor]
  cases u.testBit k <;> cases v.testBit k <;> simp
theorem pick_zero (ms : List Nat) : pick ms 0 = 0 := by
  have : ∀ n, xsum (fun k => if (0 : Nat).testBit k then ms.getD k 0 else 0) n = 0 := by
    intro n
    induction n with
    | zero => rfl
    | succ n ih => show _ ^^^ _ = 0; rw [ih]; simp
  exact this 63
theorem xsum_single {c : Nat} (f : Nat → Nat) (k : Nat) (h0 : ∀ j, j ≠ k → f j = 0) (hk : f k = c) : ∀ n, xsum f n = if k < n then c else 0
  | 0 => rfl
  | n + 1 => by
    show xsum f n ^^^ f n = _
    rw [xsum_single f k h0 hk n]
    by_cases e : n = k
    · subst e; simp [hk]
    · rw [h0 n e]
      by_cases h : k < n
      · rw [if_pos h, if_pos (by omega)]; simp
      · rw [if_neg h, if_neg (by omega)]; simp
theorem pick_one (ms : List Nat) {k : Nat} (hk : k < 63) : pick ms (2 ^ k) = ms.getD k 0 := by
  unfold pick
  have h0 : ∀ j, j ≠ k → (fun j => if (2 ^ k).testBit j then ms.getD j 0 else 0) j = 0 := by
    intro j hj
    show (if (2 ^ k).testBit j = true then ms.getD j 0 else 0) = 0
    rw [Nat.testBit_two_pow_of_ne (Ne.symm hj), if_neg Bool.false_ne_true]
  have h1 : (fun j => if (2 ^ k).testBit j then ms.getD j 0 else 0) k = ms.getD k 0 := by
    show (if (2 ^ k).testBit k = true then ms.getD k 0 else 0) = _
    rw [Nat.testBit_two_pow_self, if_pos rfl]
  rw [xsum_single _ k h0 h1 63, if_pos hk]
def Below (n u : Nat) : Prop := u < 2 ^ n
theorem pick_more {ms : List Nat} {m u : Nat} (hu : u < 2 ^ ms.length) : pick (ms ++ [m]) u = pick ms u := by
  refine xsum_congr 63 fun k _ => ?_
  by_cases h : u.testBit k = true
  · have hk : k < ms.length := by
      refine Nat.lt_of_not_le fun z => ?_
      rw [Nat.testBit_lt_two_pow (Nat.lt_of_lt_of_le hu (Nat.pow_le_pow_right (by decide) z))] at h
      cases h
    rw [if_pos h, if_pos h, List.getD_eq_getElem?_getD, List.getD_eq_getElem?_getD, List.getElem?_append_left hk]
  · rw [if_neg h, if_neg h]
theorem pick_span (ms : List Nat) (u : Nat) : Spn ms (pick ms u) := by
  have : ∀ n, Spn ms (xsum (fun k => if u.testBit k then ms.getD k 0 else 0) n) := by
    intro n
    induction n with
    | zero => exact Spn.zero ms
    | succ n ih =>
      refine Spn.xor ih ?_
      show Spn ms (if u.testBit n = true then ms.getD n 0 else 0)
      by_cases h : u.testBit n = true
      · rw [if_pos h]
        by_cases hn : n < ms.length
        · rw [List.getD_eq_getElem?_getD, List.getElem?_eq_getElem hn]
          exact Spn.mem (List.getElem_mem hn)
        · rw [List.getD_eq_getElem?_getD, List.getElem?_eq_none (by omega)]
          exact Spn.zero ms
      · rw [if_neg h]
        exact Spn.zero ms
  exact this 63
end Es
namespace Es
def look (bs : List (Nat × Nat × Nat)) (h : Nat) : Option (Nat × Nat) := (bs.find? fun b => decide (b.1 = h)).map (·.2)
theorem look_mem {bs : List (Nat × Nat × Nat)} {h : Nat} {p : Nat × Nat} (e : look bs h = some p) : (h, p) ∈ bs := by
  unfold look at e
  cases q : bs.find? fun b => decide (b.1 = h) with
  | none => rw [q] at e; cases e
  | some b =>
    rw [q] at e
    have e : b.2 = p := Option.some.inj e
    have h1 := List.find?_some q
    have h2 := List.mem_of_find?_eq_some q
    have h1 : b.1 = h := of_decide_eq_true h1
    obtain ⟨x, y⟩ := b
    simp only at e h1
    subst e; subst h1
    exact h2
theorem look_none {bs : List (Nat × Nat × Nat)} {h : Nat} : look bs h = none ↔ h ∉ bs.map (·.1) := by
  unfold look
  rw [Option.map_eq_none_iff, List.find?_eq_none]
  constructor
  · intro k m
    obtain ⟨b, hb, e⟩ := List.mem_map.mp m
    exact k b hb (decide_eq_true e)
  · intro k b hb e
    exact k (List.mem_map.mpr ⟨b, hb, of_decide_eq_true e⟩)
def rest : Nat → List (Nat × Nat × Nat) → Nat → Nat → Nat × Nat
  | 0, _, m, u => (m, u)
  | n + 1, bs, m, u =>
    match low m with
    | none => (m, u)
    | some h => match look bs h with
      | none => (m, u)
      | some p => rest n bs (m ^^^ p.1) (u ^^^ p.2)
structure BasOk (ms : List Nat) (bs : List (Nat × Nat × Nat)) : Prop where
  nd : (bs.map (·.1)).Nodup
  ok : ∀ b ∈ bs, low b.2.1 = some b.1 ∧ b.2.1 < 2 ^ 63 ∧ b.2.2 < 2 ^ ms.length ∧ pick ms b.2.2 = b.2.1
  all : ∀ m ∈ ms, Spn (bs.map (·.2.1)) m
theorem ech : ∀ {bs : List (Nat × Nat × Nat)}, (bs.map (·.1)).Nodup → (∀ b ∈ bs, low b.2.1 = some b.1) → ∀ {x : Nat}, Spn (bs.map (·.2.1)) x → x = 0 ∨ ∃ h, low x = some h ∧ h ∈ bs.map (·.1)
  | [], _, _, x, h => .inl h
  | b :: bs, nd, ok, x, h => by
    have nd : (b.1 :: bs.map (·.1)).Nodup := nd
    obtain ⟨n1, n2⟩ := List.nodup_cons.mp nd
    have ok2 : ∀ c ∈ bs, low c.2.1 = some c.1 := fun c hc => ok c (List.mem_cons_of_mem _ hc)
    have hb := ok b List.mem_cons_self
    have h : Spn (bs.map (·.2.1)) x ∨ Spn (bs.map (·.2.1)) (x ^^^ b.2.1) := h
    rcases h with h | h
    · rcases ech n2 ok2 h with e | ⟨k, e, m⟩
      · exact .inl e
      · exact .inr ⟨k, e, List.mem_cons_of_mem _ m⟩
    · have back : x = (x ^^^ b.2.1) ^^^ b.2.1 := (xx _ _).symm
      rcases ech n2 ok2 h with e | ⟨k, e, m⟩
      · rw [e, Nat.zero_xor] at back
        exact .inr ⟨b.1, by rw [back]; exact hb, List.mem_cons_self⟩
      · have ne : k ≠ b.1 := fun z => n1 (z ▸ m)
        by_cases lt : k < b.1
        · exact .inr ⟨k, by rw [back]; exact low_xor e hb lt, List.mem_cons_of_mem _ m⟩
        · refine .inr ⟨b.1, ?_, List.mem_cons_self⟩
          rw [back, Nat.xor_comm]
          exact low_xor hb e (by omega)
theorem rest_spec {ms : List Nat} {bs : List (Nat × Nat × Nat)} (B : BasOk ms bs) : ∀ (n m u : Nat), m < 2 ^ 63 → (∀ h, low m = some h → 63 ≤ h + n) →
    (rest n bs m u).1 < 2 ^ 63 ∧ (∃ c, c < 2 ^ ms.length ∧ (rest n bs m u).2 = u ^^^ c ∧ (rest n bs m u).1 = m ^^^ pick ms c) ∧
      ((rest n bs m u).1 = 0 ∨ ∃ h, low (rest n bs m u).1 = some h ∧ look bs h = none)
  | 0, m, u, hm, hn => by
    refine ⟨hm, ⟨0, Nat.two_pow_pos _, by simp [rest], by rw [pick_zero]; simp [rest]⟩, .inl ?_⟩
    refine (low_none hm).mp ?_
    cases e : low m with
    | none => rfl
    | some h =>
      have := hn h e
      have := (low_iff.mp e).1
      omega
  | n + 1, m, u, hm, hn => by
    cases e : low m with
    | none =>
      have r0 : rest (n + 1) bs m u = (m, u) := by simp [rest, e]
      rw [r0]
      exact ⟨hm, ⟨0, Nat.two_pow_pos _, by simp, by rw [pick_zero]; simp⟩, .inl ((low_none hm).mp e)⟩
    | some h =>
      cases q : look bs h with
      | none =>
        have r0 : rest (n + 1) bs m u = (m, u) := by simp [rest, e, q]
        rw [r0]
        exact ⟨hm, ⟨0, Nat.two_pow_pos _, by simp, by rw [pick_zero]; simp⟩, .inr ⟨h, e, q⟩⟩
      | some p =>
        have r0 : rest (n + 1) bs m u = rest n bs (m ^^^ p.1) (u ^^^ p.2) := by simp [rest, e, q]
        obtain ⟨o1, o2, o3, o4⟩ := B.ok _ (look_mem q)
        simp only at o1 o2 o3 o4
        obtain ⟨h1, ⟨c, c1, c2, c3⟩, h3⟩ := rest_spec B n (m ^^^ p.1) (u ^^^ p.2) (xor_lt hm o2) fun k hk => by
          have := low_xor_same e o1 hk
          have := hn h e
          omega
        rw [r0]
        refine ⟨h1, ⟨p.2 ^^^ c, Nat.xor_lt_two_pow o3 c1, ?_, ?_⟩, h3⟩
        · rw [c2, Nat.xor_assoc]
        · rw [c3, pick_xor, o4, Nat.xor_assoc]
theorem rest_none {ms : List Nat} {bs : List (Nat × Nat × Nat)} (B : BasOk ms bs) {m u : Nat} (hm : m < 2 ^ 63) : Spn ms m ↔ (rest 64 bs m u).1 = 0 := by
  obtain ⟨h1, ⟨c, c1, c2, c3⟩, h3⟩ := rest_spec B 64 m u hm fun h _ => by omega
  constructor
  · intro s
    have s2 : Spn ms (rest 64 bs m u).1 := by rw [c3]; exact Spn.xor s (pick_span ms c)
    have s3 : Spn (bs.map (·.2.1)) (rest 64 bs m u).1 := Spn.sub B.all s2
    rcases h3 with e | ⟨h, e, q⟩
    · exact e
    · rcases ech B.nd (fun b hb => (B.ok b hb).1) s3 with z | ⟨k, z, mem⟩
      · exact z
      · rw [e] at z
        have z : h = k := Option.some.inj z
        subst z
        exact absurd mem (look_none.mp q)
  · intro e
    rw [e] at c3
    have : m = pick ms c := by
      have := congrArg (· ^^^ pick ms c) c3
      simp only [Nat.zero_xor] at this
      rw [xx] at this
      exact this.symm
    rw [this]
    exact pick_span ms c
abbrev Est := List (Nat × Nat × Nat) × List (Nat × Nat) × Nat
def estep (s : Est) (m : Nat) : Est :=
  match low (rest 64 s.1 m (2 ^ s.2.2)).1 with
  | some h => (s.1 ++ [(h, rest 64 s.1 m (2 ^ s.2.2))], s.2.1, s.2.2 + 1)
  | none => (s.1, s.2.1 ++ [(s.2.2, (rest 64 s.1 m (2 ^ s.2.2)).2)], s.2.2 + 1)
def elim (ms : List Nat) : Est := ms.foldl estep ([], [], 0)
theorem elim_snoc (ms : List Nat) (m : Nat) : elim (ms ++ [m]) = estep (elim ms) m := by simp [elim]
theorem elim_take (ms : List Nat) {i : Nat} (h : i < ms.length) : elim (ms.take (i + 1)) = estep (elim (ms.take i)) ms[i] := by
  rw [List.take_succ_eq_append_getElem h, elim_snoc]
structure ElimOk (ms : List Nat) (s : Est) : Prop where
  n : s.2.2 = ms.length
  bas : BasOk ms s.1
  lots : ∀ l ∈ s.2.1, l.1 < ms.length ∧ l.2 ≠ 0 ∧ l.2 < 2 ^ ms.length ∧ pick ms l.2 = 0
  keys : (s.2.1.map (·.1)).Pairwise (· < ·)
  dep : ∀ k, k < ms.length → (k ∈ s.2.1.map (·.1) ↔ Spn (ms.take k) (ms.getD k 0))
  sum : s.1.length + s.2.1.length = ms.length
theorem elim_ok : ∀ (ms : List Nat), (∀ m ∈ ms, m < 2 ^ 63) → ms.length ≤ 62 → ElimOk ms (elim ms) := by
  intro ms
  suffices h : ∀ n, ∀ ms : List Nat, ms.length = n → (∀ m ∈ ms, m < 2 ^ 63) → ms.length ≤ 62 → ElimOk ms (elim ms) from h _ ms rfl
  intro n
  induction n with
  | zero =>
    intro ms hl _ _
    have : ms = [] := List.length_eq_zero_iff.mp hl
    subst this
    exact ⟨rfl, ⟨List.nodup_nil, (fun b hb => by cases hb), (fun b hb => by cases hb)⟩, (fun b hb => by cases hb), List.Pairwise.nil, (fun k hk => by cases hk), rfl⟩
  | succ n ih =>
    intro ms hl hm h62
    have hne : ms ≠ [] := by intro z; subst z; cases hl
    obtain ⟨pre, m, rfl⟩ : ∃ pre m, ms = pre ++ [m] := ⟨ms.dropLast, ms.getLast hne, (List.dropLast_concat_getLast hne).symm⟩
    have hpl : pre.length = n := by simpa using hl
    have O := ih pre hpl (fun x hx => hm x (List.mem_append_left _ hx)) (by simp at h62; omega)
    have hmm : m < 2 ^ 63 := hm m (List.mem_append_right _ List.mem_cons_self)
    rw [elim_snoc]
    obtain ⟨o1, B, o3, o4, o5, o6⟩ := O
    obtain ⟨h1, ⟨c, c1, c2, c3⟩, h3⟩ := rest_spec B 64 m (2 ^ (elim pre).2.2) hmm fun h _ => by omega
    have dn := rest_none B (u := 2 ^ (elim pre).2.2) hmm
    have len : (pre ++ [m]).length = pre.length + 1 := by simp
    have p2 : 2 ^ pre.length < 2 ^ (pre.length + 1) := Nat.pow_lt_pow_right (by decide) (by omega)
    have c2 : (rest 64 (elim pre).1 m (2 ^ (elim pre).2.2)).2 = 2 ^ pre.length ^^^ c := c2.trans (by rw [o1])
    have usedLt : (rest 64 (elim pre).1 m (2 ^ (elim pre).2.2)).2 < 2 ^ (pre.length + 1) := by
      rw [c2]
      exact Nat.xor_lt_two_pow p2 (Nat.lt_trans c1 p2)
    have usedNe : (rest 64 (elim pre).1 m (2 ^ (elim pre).2.2)).2 ≠ 0 := by
      rw [c2]
      intro z
      have : (2 ^ pre.length ^^^ c).testBit pre.length = true := by
        rw [Nat.testBit_xor, Nat.testBit_two_pow_self, Nat.testBit_lt_two_pow c1]; rfl
      rw [z] at this
      simp at this
    have usedPick : pick (pre ++ [m]) (rest 64 (elim pre).1 m (2 ^ (elim pre).2.2)).2 = (rest 64 (elim pre).1 m (2 ^ (elim pre).2.2)).1 := by
      rw [c2, pick_xor, pick_more c1, pick_one _ (by simp at h62; omega), c3]
      congr 1
      simp [List.getD_eq_getElem?_getD]
    have depOld : ∀ k, k < pre.length → ((pre ++ [m]).take k = pre.take k ∧ (pre ++ [m]).getD k 0 = pre.getD k 0) := by
      intro k hk
      refine ⟨List.take_append_of_le_length (by omega), ?_⟩
      rw [List.getD_eq_getElem?_getD, List.getD_eq_getElem?_getD, List.getElem?_append_left hk]
    have depNew : (pre ++ [m]).take pre.length = pre ∧ (pre ++ [m]).getD pre.length 0 = m := by
      refine ⟨by simp, by simp [List.getD_eq_getElem?_getD]⟩
    cases e : low (rest 64 (elim pre).1 m (2 ^ (elim pre).2.2)).1 with
    | some h =>
      have st : estep (elim pre) m = ((elim pre).1 ++ [(h, rest 64 (elim pre).1 m (2 ^ (elim pre).2.2))], (elim pre).2.1, (elim pre).2.2 + 1) := by
        simp [estep, e]
      have nz : (rest 64 (elim pre).1 m (2 ^ (elim pre).2.2)).1 ≠ 0 := fun z => by rw [z] at e; cases e
      have fresh : look (elim pre).1 h = none := by
        rcases h3 with z | ⟨k, z, q⟩
        · exact absurd z nz
        · rw [e] at z
          have z : h = k := Option.some.inj z
          rw [z]; exact q
      have hd := look_none.mp fresh
      rw [st]
      refine ⟨by show _ = _; rw [o1, len], ⟨?_, ?_, ?_⟩, ?_, o4, ?_, ?_⟩
      · rw [List.map_append]
        refine List.nodup_append.mpr ⟨B.nd, by simp, fun a ha b hb => ?_⟩
        have hb : b = h := by simpa using hb
        subst hb
        exact fun z => hd (z ▸ ha)
      · intro b hb
        rcases List.mem_append.mp hb with hb | hb
        · obtain ⟨b1, b2, b3, b4⟩ := B.ok b hb
          exact ⟨b1, b2, by rw [len]; exact Nat.lt_trans b3 p2, by rw [pick_more b3]; exact b4⟩
        · have hb : b = (h, rest 64 (elim pre).1 m (2 ^ (elim pre).2.2)) := by simpa using hb
          subst hb
          exact ⟨e, h1, by rw [len]; exact usedLt, usedPick⟩
      · intro x hx
        rw [List.map_append]
        rcases List.mem_append.mp hx with hx | hx
        · exact Spn.left (B.all x hx)
        · have hx : x = m := by simpa using hx
          subst hx
          have a1 : Spn ((elim pre).1.map (·.2.1)) (pick pre c) := Spn.sub B.all (pick_span pre c)
          have a2 : x = (rest 64 (elim pre).1 x (2 ^ (elim pre).2.2)).1 ^^^ pick pre c := by rw [c3, xx]
          have a3 : Spn ((elim pre).1.map (·.2.1) ++ [(h, rest 64 (elim pre).1 x (2 ^ (elim pre).2.2))].map (·.2.1)) (rest 64 (elim pre).1 x (2 ^ (elim pre).2.2)).1 :=
            Spn.mem (List.mem_append_right _ (by simp))
          have a4 := Spn.xor a3 (Spn.left (bs := [(h, rest 64 (elim pre).1 x (2 ^ (elim pre).2.2))].map (·.2.1)) a1)
          rw [← a2] at a4
          exact a4
      · intro l hl2
        obtain ⟨l1, l2, l3, l4⟩ := o3 l hl2
        exact ⟨by rw [len]; omega, l2, by rw [len]; exact Nat.lt_trans l3 p2, by rw [pick_more l3]; exact l4⟩
      · intro k hk
        rw [len] at hk
        by_cases hk2 : k < pre.length
        · rw [(depOld k hk2).1, (depOld k hk2).2]
          exact o5 k hk2
        · have : k = pre.length := by omega
          subst this
          rw [depNew.1, depNew.2]
          constructor
          · intro mem
            obtain ⟨l, l1, l2⟩ := List.mem_map.mp mem
            have := (o3 l l1).1
            omega
          · intro s
            exact absurd (dn.mp s) nz
      · show ((elim pre).1 ++ _).length + _ = _
        rw [List.length_append, len]
        simp
        omega
    | none =>
      have st : estep (elim pre) m = ((elim pre).1, (elim pre).2.1 ++ [((elim pre).2.2, (rest 64 (elim pre).1 m (2 ^ (elim pre).2.2)).2)], (elim pre).2.2 + 1) := by
        simp [estep, e]
      have z0 : (rest 64 (elim pre).1 m (2 ^ (elim pre).2.2)).1 = 0 := (low_none h1).mp e
      rw [st]
      refine ⟨by show _ = _; rw [o1, len], ⟨B.nd, ?_, ?_⟩, ?_, ?_, ?_, ?_⟩
      · intro b hb
        obtain ⟨b1, b2, b3, b4⟩ := B.ok b hb
        exact ⟨b1, b2, by rw [len]; exact Nat.lt_trans b3 p2, by rw [pick_more b3]; exact b4⟩
      · intro x hx
        rcases List.mem_append.mp hx with hx | hx
        · exact B.all x hx
        · have hx : x = m := by simpa using hx
          subst hx
          exact Spn.sub B.all (dn.mpr z0)
      · intro l hl2
        rcases List.mem_append.mp hl2 with hl2 | hl2
        · obtain ⟨l1, l2, l3, l4⟩ := o3 l hl2
          exact ⟨by rw [len]; omega, l2, by rw [len]; exact Nat.lt_trans l3 p2, by rw [pick_more l3]; exact l4⟩
        · have hl2 : l = ((elim pre).2.2, (rest 64 (elim pre).1 m (2 ^ (elim pre).2.2)).2) := by simpa using hl2
          subst hl2
          exact ⟨by rw [len, o1]; omega, usedNe, by rw [len]; exact usedLt, by rw [usedPick]; exact z0⟩
      · rw [List.map_append]
        refine List.pairwise_append.mpr ⟨o4, by simp, fun a ha b hb => ?_⟩
        have hb : b = (elim pre).2.2 := by simpa using hb
        obtain ⟨l, l1, l2⟩ := List.mem_map.mp ha
        have := (o3 l l1).1
        rw [hb, o1]
        omega
      · intro k hk
        rw [len] at hk
        rw [List.map_append, List.mem_append]
        by_cases hk2 : k < pre.length
        · rw [(depOld k hk2).1, (depOld k hk2).2, ← o5 k hk2]
          constructor
          · rintro (h | h)
            · exact h
            · have : k = (elim pre).2.2 := by simpa using h
              omega
          · exact .inl
        · have : k = pre.length := by omega
          subst this
          rw [depNew.1, depNew.2]
          exact ⟨fun _ => dn.mpr z0, fun _ => .inr (by simp [o1])⟩
      · show _ + ((elim pre).2.1 ++ _).length = _
        rw [List.length_append, len]
        simp
        omega
def indep (ms : List Nat) : List Nat := (List.range ms.length).filter fun k => decide (k ∉ (elim ms).2.1.map (·.1))
def srt (l : List Nat) : List Nat := (List.range 63).filter fun u => decide (u ∈ l)
theorem mem_srt {l : List Nat} {u : Nat} : u ∈ srt l ↔ u < 63 ∧ u ∈ l := by simp [srt]
theorem srt_lt (l : List Nat) : (srt l).Pairwise (· < ·) := List.Pairwise.filter _ List.pairwise_lt_range
def lred1 (hs : List (Nat × Nat × Nat)) (p : Nat × Nat) (h : Nat) : Nat × Nat :=
  if p.1.testBit h = true then match look hs h with
    | some q => (p.1 ^^^ q.1, p.2 ^^^ q.2)
    | none => p
  else p
def lred (hs : List (Nat × Nat × Nat)) (p : Nat × Nat) : Nat × Nat := (srt (hs.map (·.1))).foldl (lred1 hs) p
def lput (hs : List (Nat × Nat × Nat)) (at_ : Nat) (p : Nat × Nat) : List (Nat × Nat × Nat) :=
  (hs.map fun e => if e.2.1.testBit at_ = true then (e.1, e.2.1 ^^^ p.1, e.2.2 ^^^ p.2) else e) ++ [(at_, p.1, p.2)]
def lstep (hs : List (Nat × Nat × Nat)) (l : Nat × Nat) : Option (List (Nat × Nat × Nat)) :=
  match low (lred hs l).1 with
  | none => if (lred hs l).2 = 1 then none else some hs
  | some a => some (lput hs a (lred hs l))
structure RedOk (hs : List (Nat × Nat × Nat)) : Prop where
  nd : (hs.map (·.1)).Nodup
  own : ∀ e ∈ hs, e.1 < 63 ∧ e.2.1 < 2 ^ 63 ∧ e.2.1.testBit e.1 = true
  oth : ∀ e ∈ hs, ∀ h ∈ hs.map (·.1), h ≠ e.1 → e.2.1.testBit h = false
theorem red_zero : ∀ {hs : List (Nat × Nat × Nat)}, (hs.map (·.1)).Nodup → (∀ e ∈ hs, e.2.1.testBit e.1 = true) → (∀ e ∈ hs, ∀ h ∈ hs.map (·.1), h ≠ e.1 → e.2.1.testBit h = false) →
    ∀ {x : Nat}, Spn (hs.map (·.2.1)) x → (∀ h ∈ hs.map (·.1), x.testBit h = false) → x = 0
  | [], _, _, _, x, s, _ => s
  | e :: hs, nd, ow, ot, x, s, no => by
    have nd : (e.1 :: hs.map (·.1)).Nodup := nd
    obtain ⟨n1, n2⟩ := List.nodup_cons.mp nd
    have s : Spn (hs.map (·.2.1)) x ∨ Spn (hs.map (·.2.1)) (x ^^^ e.2.1) := s
    have rec_ := @red_zero hs n2 (fun c hc => ow c (List.mem_cons_of_mem _ hc)) (fun c hc h hh => ot c (List.mem_cons_of_mem _ hc) h (List.mem_cons_of_mem _ hh))
    rcases s with s | s
    · exact rec_ s fun h hh => no h (List.mem_cons_of_mem _ hh)
    · have b0 : (x ^^^ e.2.1).testBit e.1 = false := Spn.bits0 (fun m hm => by
        obtain ⟨c, hc, rfl⟩ := List.mem_map.mp hm
        refine ot c (List.mem_cons_of_mem _ hc) e.1 List.mem_cons_self fun z => ?_
        exact n1 (z ▸ List.mem_map.mpr ⟨c, hc, rfl⟩)) s
      rw [Nat.testBit_xor, ow e List.mem_cons_self, no e.1 List.mem_cons_self] at b0
      cases b0
theorem lred_fold {hs : List (Nat × Nat × Nat)} (R : RedOk hs) : ∀ (S : List Nat) (dn : List Nat) (p : Nat × Nat), (∀ h ∈ S, h ∈ hs.map (·.1)) → (∀ h ∈ dn, h ∈ hs.map (·.1)) → p.1 < 2 ^ 63 → (∀ h ∈ dn, p.1.testBit h = false) →
    (S.foldl (lred1 hs) p).1 < 2 ^ 63 ∧ (∃ y, Spn (hs.map (·.2.1)) y ∧ (S.foldl (lred1 hs) p).1 = p.1 ^^^ y) ∧ (∀ h, h ∈ dn ∨ h ∈ S → (S.foldl (lred1 hs) p).1.testBit h = false)
  | [], dn, p, _, _, hp, hd => ⟨hp, ⟨0, Spn.zero _, by simp⟩, fun h hh => by
      rcases hh with hh | hh
      · exact hd h hh
      · cases hh⟩
  | k :: S, dn, p, hS, hD, hp, hd => by
    have hk := hS k List.mem_cons_self
    obtain ⟨e, he, ek⟩ := List.mem_map.mp hk
    have step : ∃ y, Spn (hs.map (·.2.1)) y ∧ (lred1 hs p k).1 = p.1 ^^^ y ∧ (lred1 hs p k).1 < 2 ^ 63 ∧ (lred1 hs p k).1.testBit k = false ∧ ∀ h ∈ dn, (lred1 hs p k).1.testBit h = false := by
      unfold lred1
      by_cases hb : p.1.testBit k = true
      · rw [if_pos hb]
        cases q : look hs k with
        | none => exact absurd hk (look_none.mp q)
        | some r =>
          have mem := look_mem q
          obtain ⟨w1, w2, w3⟩ := R.own _ mem
          simp only at w1 w2 w3
          refine ⟨r.1, Spn.mem (List.mem_map.mpr ⟨_, mem, rfl⟩), rfl, xor_lt hp w2, ?_, fun h hh => ?_⟩
          · show (p.1 ^^^ r.1).testBit k = false
            rw [Nat.testBit_xor, hb, w3]; rfl
          · show (p.1 ^^^ r.1).testBit h = false
            rw [Nat.testBit_xor, hd h hh]
            by_cases z : h = k
            · subst z
              rw [hd h hh] at hb; cases hb
            · rw [R.oth _ mem h (hD h hh) z]; rfl
      · rw [if_neg hb]
        exact ⟨0, Spn.zero _, by simp, hp, by simpa using hb, hd⟩
    obtain ⟨y, y1, y2, y3, y4, y5⟩ := step
    obtain ⟨f1, ⟨z, z1, z2⟩, f3⟩ := lred_fold R S (k :: dn) (lred1 hs p k) (fun h hh => hS h (List.mem_cons_of_mem _ hh)) (fun h hh => by
      rcases List.mem_cons.mp hh with e | e
      · subst e; exact hk
      · exact hD h e) y3 (fun h hh => by
      rcases List.mem_cons.mp hh with e | e
      · subst e; exact y4
      · exact y5 h e)
    refine ⟨f1, ⟨y ^^^ z, Spn.xor y1 z1, ?_⟩, fun h hh => f3 h ?_⟩
    · show (S.foldl (lred1 hs) (lred1 hs p k)).1 = _
      rw [z2, y2, Nat.xor_assoc]
    · rcases hh with hh | hh
      · exact .inl (List.mem_cons_of_mem _ hh)
      · rcases List.mem_cons.mp hh with e | e
        · subst e; exact .inl List.mem_cons_self
        · exact .inr e
theorem lred_spec {hs : List (Nat × Nat × Nat)} (R : RedOk hs) {p : Nat × Nat} (hp : p.1 < 2 ^ 63) :
    (lred hs p).1 < 2 ^ 63 ∧ (∃ y, Spn (hs.map (·.2.1)) y ∧ (lred hs p).1 = p.1 ^^^ y) ∧ ∀ h ∈ hs.map (·.1), (lred hs p).1.testBit h = false := by
  obtain ⟨a, b, c⟩ := lred_fold R (srt (hs.map (·.1))) [] p (fun h hh => (mem_srt.mp hh).2) (fun h hh => by cases hh) hp (fun h hh => by cases hh)
  refine ⟨a, b, fun h hh => c h (.inr (mem_srt.mpr ⟨?_, hh⟩))⟩
  obtain ⟨e, he, z⟩ := List.mem_map.mp hh
  have := (R.own e he).1
  rw [← z]; exact this
theorem lput_ok {hs : List (Nat × Nat × Nat)} (R : RedOk hs) {p : Nat × Nat} {a : Nat} (hp : p.1 < 2 ^ 63) (hl : low p.1 = some a) (no : ∀ h ∈ hs.map (·.1), p.1.testBit h = false) :
    RedOk (lput hs a p) ∧ (lput hs a p).map (·.1) = hs.map (·.1) ++ [a] ∧ (∀ x, Spn ((lput hs a p).map (·.2.1)) x ↔ Spn (hs.map (·.2.1) ++ [p.1]) x) := by
  obtain ⟨a1, a2, a3⟩ := low_iff.mp hl
  have hm : (lput hs a p).map (·.1) = hs.map (·.1) ++ [a] := by
    unfold lput
    rw [List.map_append, List.map_map]
    congr 1
    refine List.map_congr_left fun e _ => ?_
    show (if _ then _ else _ : Nat × Nat × Nat).1 = e.1
    split <;> rfl
  have na : a ∉ hs.map (·.1) := fun z => by rw [no a z] at a2; cases a2
  have each : ∀ e ∈ lput hs a p, (e = (a, p.1, p.2)) ∨ ∃ e0 ∈ hs, e.1 = e0.1 ∧ ((e0.2.1.testBit a = true ∧ e.2.1 = e0.2.1 ^^^ p.1) ∨ (e0.2.1.testBit a = false ∧ e.2.1 = e0.2.1)) := by
    intro e he
    rcases List.mem_append.mp he with he | he
    · obtain ⟨e0, h0, rfl⟩ := List.mem_map.mp he
      refine .inr ⟨e0, h0, ?_⟩
      by_cases hb : e0.2.1.testBit a = true
      · rw [if_pos hb]; exact ⟨rfl, .inl ⟨hb, rfl⟩⟩
      · rw [if_neg hb]; exact ⟨rfl, .inr ⟨by simpa using hb, rfl⟩⟩
    · exact .inl (by simpa using he)
  refine ⟨⟨?_, ?_, ?_⟩, hm, ?_⟩
  · rw [hm]
    refine List.nodup_append.mpr ⟨R.nd, by simp, fun x hx y hy => ?_⟩
    have hy : y = a := by simpa using hy
    subst hy
    exact fun z => na (z ▸ hx)
  · intro e he
    rcases each e he with rfl | ⟨e0, h0, e1, e2⟩
    · exact ⟨a1, hp, a2⟩
    · obtain ⟨w1, w2, w3⟩ := R.own e0 h0
      have hh : e0.1 ∈ hs.map (·.1) := List.mem_map.mpr ⟨e0, h0, rfl⟩
      rcases e2 with ⟨_, e2⟩ | ⟨_, e2⟩
      · refine ⟨by rw [e1]; exact w1, by rw [e2]; exact xor_lt w2 hp, ?_⟩
        rw [e1, e2, Nat.testBit_xor, w3, no _ hh]; rfl
      · exact ⟨by rw [e1]; exact w1, by rw [e2]; exact w2, by rw [e1, e2]; exact w3⟩
  · intro e he h hh ne
    rw [hm] at hh
    rcases each e he with rfl | ⟨e0, h0, e1, e2⟩
    · rcases List.mem_append.mp hh with hh | hh
      · exact no h hh
      · exact absurd (by simpa using hh) ne
    · rcases List.mem_append.mp hh with hh | hh
      · have o := R.oth e0 h0 h hh (e1 ▸ ne)
        rcases e2 with ⟨_, e2⟩ | ⟨_, e2⟩
        · rw [e2, Nat.testBit_xor, o, no h hh]; rfl
        · rw [e2]; exact o
      · have hh : h = a := by simpa using hh
        subst hh
        rcases e2 with ⟨b, e2⟩ | ⟨b, e2⟩
        · rw [e2, Nat.testBit_xor, b, a2]; rfl
        · rw [e2]; exact b
  · intro x
    have pm : Spn ((lput hs a p).map (·.2.1)) p.1 := Spn.mem (List.mem_map.mpr ⟨(a, p.1, p.2), List.mem_append_right _ (by simp), rfl⟩)
    constructor
    · refine Spn.sub fun y hy => ?_
      obtain ⟨e, he, rfl⟩ := List.mem_map.mp hy
      have p2 : Spn (hs.map (·.2.1) ++ [p.1]) p.1 := Spn.mem (List.mem_append_right _ (by simp))
      rcases each e he with rfl | ⟨e0, h0, e1, e2⟩
      · exact p2
      · have o : Spn (hs.map (·.2.1) ++ [p.1]) e0.2.1 := Spn.mem (List.mem_append_left _ (List.mem_map.mpr ⟨e0, h0, rfl⟩))
        rcases e2 with ⟨_, e2⟩ | ⟨_, e2⟩
        · rw [e2]; exact Spn.xor o p2
        · rw [e2]; exact o
    · refine Spn.sub fun y hy => ?_
      rcases List.mem_append.mp hy with hy | hy
      · obtain ⟨e0, h0, rfl⟩ := List.mem_map.mp hy
        by_cases hb : e0.2.1.testBit a = true
        · have : Spn ((lput hs a p).map (·.2.1)) (e0.2.1 ^^^ p.1) := Spn.mem (List.mem_map.mpr ⟨(e0.1, e0.2.1 ^^^ p.1, e0.2.2 ^^^ p.2), List.mem_append_left _ (List.mem_map.mpr ⟨e0, h0, by rw [if_pos hb]⟩), rfl⟩)
          have := Spn.xor this pm
          rwa [xx] at this
        · exact Spn.mem (List.mem_map.mpr ⟨e0, List.mem_append_left _ (List.mem_map.mpr ⟨e0, h0, by rw [if_neg hb]⟩), rfl⟩)
      · have hy : y = p.1 := by simpa using hy
        rw [hy]; exact pm
def lflat (ls : List (Nat × Nat)) : Option (List (Nat × Nat × Nat)) := ls.foldl (fun o l => o.bind fun hs => lstep hs l) (some [])
theorem lflat_snoc (ls : List (Nat × Nat)) (l : Nat × Nat) : lflat (ls ++ [l]) = (lflat ls).bind fun hs => lstep hs l := by simp [lflat]
def zeroB (ms : List Nat) : List (Nat × Nat) := ms.map fun m => (m, 0)
theorem lred1_bit {hs : List (Nat × Nat × Nat)} (h0 : ∀ e ∈ hs, e.2.2 = 0) {p : Nat × Nat} (hp : p.2 = 0) (h : Nat) : (lred1 hs p h).2 = 0 := by
  unfold lred1
  split
  · split
    · next q e =>
      have := h0 _ (look_mem e)
      simp only at this
      show p.2 ^^^ q.2 = 0
      rw [hp, this]; rfl
    · exact hp
  · exact hp
theorem lred_bit {hs : List (Nat × Nat × Nat)} (h0 : ∀ e ∈ hs, e.2.2 = 0) {p : Nat × Nat} (hp : p.2 = 0) : (lred hs p).2 = 0 := by
  unfold lred
  generalize srt (hs.map (·.1)) = S
  induction S generalizing p with
  | nil => exact hp
  | cons k S ih => exact ih (lred1_bit h0 hp k)
theorem lflat_rows : ∀ (ms : List Nat), (∀ m ∈ ms, m < 2 ^ 63) → ∃ hs, lflat (zeroB ms) = some hs ∧ RedOk hs ∧ (∀ e ∈ hs, e.2.2 = 0) ∧ (∀ x, Spn (hs.map (·.2.1)) x ↔ Spn ms x) := by
  intro ms
  suffices h : ∀ n, ∀ ms : List Nat, ms.length = n → (∀ m ∈ ms, m < 2 ^ 63) → ∃ hs, lflat (zeroB ms) = some hs ∧ RedOk hs ∧ (∀ e ∈ hs, e.2.2 = 0) ∧ (∀ x, Spn (hs.map (·.2.1)) x ↔ Spn ms x) from h _ ms rfl
  intro n
  induction n with
  | zero =>
    intro ms hl _
    have : ms = [] := List.length_eq_zero_iff.mp hl
    subst this
    exact ⟨[], rfl, ⟨List.nodup_nil, (fun e he => by cases he), (fun e he => by cases he)⟩, (fun e he => by cases he), fun x => Iff.rfl⟩
  | succ n ih =>
    intro ms hl hm
    have hne : ms ≠ [] := by intro z; subst z; cases hl
    obtain ⟨pre, m, rfl⟩ : ∃ pre m, ms = pre ++ [m] := ⟨ms.dropLast, ms.getLast hne, (List.dropLast_concat_getLast hne).symm⟩
    obtain ⟨hs, f1, R, f3, f4⟩ := ih pre (by simpa using hl) fun x hx => hm x (List.mem_append_left _ hx)
    have hmm : m < 2 ^ 63 := hm m (List.mem_append_right _ List.mem_cons_self)
    have sn : lflat (zeroB (pre ++ [m])) = lstep hs (m, 0) := by
      unfold zeroB at f1 ⊢
      rw [List.map_append]
      show lflat (pre.map (fun m => (m, 0)) ++ [(m, 0)]) = _
      rw [lflat_snoc, f1]
      rfl
    have b0 : (lred hs (m, 0)).2 = 0 := lred_bit f3 rfl
    obtain ⟨l1, ⟨y, y1, y2⟩, l3⟩ := lred_spec R (p := (m, 0)) hmm
    have y2 : (lred hs (m, 0)).1 = m ^^^ y := y2
    rw [sn]
    unfold lstep
    cases e : low (lred hs (m, 0)).1 with
    | none =>
      have z0 := (low_none l1).mp e
      refine ⟨hs, by simp [b0], R, f3, fun x => ?_⟩
      rw [f4]
      constructor
      · exact Spn.left
      · refine Spn.sub fun a ha => ?_
        rcases List.mem_append.mp ha with ha | ha
        · exact Spn.mem ha
        · have ha : a = m := by simpa using ha
          subst ha
          have : a = y := by
            rw [z0] at y2
            have := congrArg (· ^^^ y) y2
            simp only [Nat.zero_xor] at this
            rw [xx] at this
            exact this.symm
          rw [this]
          exact (f4 y).mp y1
    | some a =>
      obtain ⟨g1, g2, g3⟩ := lput_ok R l1 e l3
      refine ⟨lput hs a (lred hs (m, 0)), rfl, g1, ?_, fun x => ?_⟩
      · intro e he
        rcases List.mem_append.mp he with he | he
        · obtain ⟨e0, h0, rfl⟩ := List.mem_map.mp he
          by_cases hb : e0.2.1.testBit a = true
          · rw [if_pos hb]
            show e0.2.2 ^^^ (lred hs (m, 0)).2 = 0
            rw [b0, f3 e0 h0]; rfl
          · rw [if_neg hb]; exact f3 e0 h0
        · have he : e = (a, (lred hs (m, 0)).1, (lred hs (m, 0)).2) := by simpa using he
          rw [he]; exact b0
      · rw [g3]
        have yp : Spn pre y := (f4 y).mp y1
        constructor
        · refine Spn.sub fun z hz => ?_
          rcases List.mem_append.mp hz with hz | hz
          · exact Spn.left ((f4 z).mp (Spn.mem hz))
          · have hz : z = (lred hs (m, 0)).1 := by simpa using hz
            rw [hz, y2]
            exact Spn.xor (Spn.mem (List.mem_append_right _ (by simp))) (Spn.left yp)
        · refine Spn.sub fun z hz => ?_
          rcases List.mem_append.mp hz with hz | hz
          · exact Spn.left ((f4 z).mpr (Spn.mem hz))
          · have hz : z = m := by simpa using hz
            have a1 : Spn (hs.map (·.2.1) ++ [(lred hs (m, 0)).1]) (lred hs (m, 0)).1 := Spn.mem (List.mem_append_right _ (by simp))
            have a2 := Spn.xor a1 (Spn.left (bs := [(lred hs (m, 0)).1]) y1)
            rw [y2, xx] at a2
            rw [hz, y2]; exact a2
def lrank (ms : List Nat) : Nat := ((lflat (zeroB ms)).getD []).length
theorem lrank_nil : lrank [] = 0 := rfl
theorem lrank_snoc {ms : List Nat} {m : Nat} (hm : ∀ x ∈ ms, x < 2 ^ 63) (hmm : m < 2 ^ 63) :
    (Spn ms m → lrank (ms ++ [m]) = lrank ms) ∧ (¬ Spn ms m → lrank (ms ++ [m]) = lrank ms + 1) := by
  obtain ⟨hs, f1, R, f3, f4⟩ := lflat_rows ms hm
  have sn : lflat (zeroB (ms ++ [m])) = lstep hs (m, 0) := by
    unfold zeroB at f1 ⊢
    rw [List.map_append]
    show lflat (ms.map (fun m => (m, 0)) ++ [(m, 0)]) = _
    rw [lflat_snoc, f1]
    rfl
  have b0 : (lred hs (m, 0)).2 = 0 := lred_bit f3 rfl
  obtain ⟨l1, ⟨y, y1, y2⟩, l3⟩ := lred_spec R (p := (m, 0)) hmm
  have y2 : (lred hs (m, 0)).1 = m ^^^ y := y2
  have l0 : lrank ms = hs.length := by unfold lrank; rw [f1]; rfl
  unfold lrank at l0 ⊢
  rw [sn]
  unfold lstep
  cases e : low (lred hs (m, 0)).1 with
  | none =>
    have z0 := (low_none l1).mp e
    have my : m = y := by
      rw [z0] at y2
      have := congrArg (· ^^^ y) y2
      simp only [Nat.zero_xor] at this
      rw [xx] at this
      exact this.symm
    refine ⟨fun _ => ?_, fun n => absurd ((f4 m).mp (my ▸ y1)) n⟩
    simp only [b0]
    rw [l0]; rfl
  | some a =>
    refine ⟨fun s => ?_, fun _ => ?_⟩
    · exfalso
      have : (lred hs (m, 0)).1 = 0 := red_zero R.nd (fun e he => (R.own e he).2.2) R.oth (by rw [y2]; exact Spn.xor ((f4 m).mpr s) y1) l3
      rw [this] at e
      cases e
    · show (lput hs a _).length = _
      unfold lput
      rw [List.length_append, List.length_map, l0]
      rfl
end Es
namespace Es
theorem lt_take {ms : List Nat} (h : ∀ x ∈ ms, x < 2 ^ 63) (k : Nat) : ∀ x ∈ ms.take k, x < 2 ^ 63 := fun x hx => h x (List.mem_of_mem_take hx)
theorem getD_lt {ms : List Nat} (h : ∀ x ∈ ms, x < 2 ^ 63) (k : Nat) : ms.getD k 0 < 2 ^ 63 := by
  rw [List.getD_eq_getElem?_getD]
  by_cases hk : k < ms.length
  · rw [List.getElem?_eq_getElem hk]; exact h _ (List.getElem_mem hk)
  · rw [List.getElem?_eq_none (by omega)]; decide
theorem take_snoc {ms : List Nat} {k : Nat} (hk : k < ms.length) : ms.take (k + 1) = ms.take k ++ [ms.getD k 0] := by
  rw [List.take_succ_eq_append_getElem hk, List.getD_eq_getElem?_getD, List.getElem?_eq_getElem hk]
  rfl
theorem rank_grows {ms : List Nat} (hm : ∀ x ∈ ms, x < 2 ^ 63) (hl : ms.length ≤ 62) {k : Nat} (hk : k < ms.length) :
    lrank (ms.take (k + 1)) = lrank (ms.take k) + (if k ∈ (elim ms).2.1.map (·.1) then 0 else 1) := by
  have O := elim_ok ms hm hl
  obtain ⟨a, b⟩ := lrank_snoc (lt_take hm k) (getD_lt hm k)
  rw [take_snoc hk]
  by_cases h : k ∈ (elim ms).2.1.map (·.1)
  · rw [if_pos h, a ((O.dep k hk).mp h), Nat.add_zero]
  · rw [if_neg h, b fun s => h ((O.dep k hk).mpr s)]
theorem lrank_count {ms : List Nat} (hm : ∀ x ∈ ms, x < 2 ^ 63) (hl : ms.length ≤ 62) : ∀ n, n ≤ ms.length →
    lrank (ms.take n) = ((List.range n).filter fun k => decide (k ∉ (elim ms).2.1.map (·.1))).length
  | 0, _ => by simp [lrank_nil]
  | n + 1, h => by
    rw [rank_grows hm hl (by omega), lrank_count hm hl n (by omega), List.range_succ, List.filter_append, List.length_append]
    congr 1
    by_cases q : n ∈ (elim ms).2.1.map (·.1)
    · rw [if_pos q, List.filter_cons, if_neg (by simp only [decide_eq_true_eq]; exact fun z => z q)]; rfl
    · rw [if_neg q, List.filter_cons, if_pos (by simp only [decide_eq_true_eq]; exact q)]; rfl
theorem lrank_indep {ms : List Nat} (hm : ∀ x ∈ ms, x < 2 ^ 63) (hl : ms.length ≤ 62) : lrank ms = (indep ms).length := by
  have := lrank_count hm hl ms.length (Nat.le_refl _)
  rwa [List.take_length] at this
theorem indep_all {ms : List Nat} (hm : ∀ x ∈ ms, x < 2 ^ 63) (hl : ms.length ≤ 62) (h : (elim ms).2.1 = []) : lrank ms = ms.length := by
  rw [lrank_indep hm hl]
  unfold indep
  rw [h, List.filter_eq_self.mpr fun a _ => by simp, List.length_range]
end Es
set_option Elab.async false
set_option linter.all false
set_option maxRecDepth 100000
set_option maxHeartbeats 4000000
namespace Es
open PySem PySem.Spec PyProof.Rows L2
def But (b : Addr) (H H' : Hp) : Prop := ∀ a o, a ≠ b → H a = some o → H' a = some o
theorem But.refl (b : Addr) (H : Hp) : But b H H := fun _ _ _ h => h
theorem But.trans {b : Addr} {H H1 H2 : Hp} (h : But b H H1) (k : But b H1 H2) : But b H H2 := fun a o n e => k a o n (h a o n e)
theorem But.same {b : Addr} {H H' : Hp} (h : Same H H') : But b H H' := fun a o _ e => h a o e
theorem same_new {H : Hp} {p : Addr} {o : HO} (h : H p = none) : Same H (upd H p o) := fun b x e => by
  rw [upd_ne (ne_of_none e h)]
  exact e
theorem But.new {b : Addr} {H : Hp} {p : Addr} {o : HO} (h : H p = none) : But b H (upd H p o) := But.same (same_new h)
theorem But.at_ {b : Addr} {H : Hp} {o : HO} : But b H (upd H b o) := fun a x n e => by
  rw [upd_ne n]
  exact e
theorem same_mut {H H' : Hp} {p : Addr} {o : HO} (s : Same H H') (h : H p = none) : Same H (upd H' p o) := fun b x e => by
  rw [upd_ne (ne_of_none e h)]
  exact s b x e
theorem sqT_same {K : PySem.W.Frag} {H H' : Hp} {a : Addr} {xs : List V} (s : Same H H') (h : SqT K H a xs) : SqT K H' a xs := by
  rcases h with (h | ⟨o, h⟩) | h
  · exact .inl (.inl (s _ _ h))
  · exact .inl (.inr ⟨o, s _ _ h⟩)
  · exact .inr h
theorem sqT_but {K : PySem.W.Frag} {H H' : Hp} {a b : Addr} {xs ys : List V} (hb : H b = some (.lst ys)) (s : But b H H') (h : SqT K H a xs) : SqT K H' a xs := by
  rcases h with (h | ⟨o, h⟩) | h
  · exact .inl (.inl (s _ _ (ne_of h hb (by intro z; cases z)) h))
  · exact .inl (.inr ⟨o, s _ _ (ne_of h hb (by intro z; cases z)) h⟩)
  · exact .inr h
def iv (l : List Nat) : List V := l.map fun (n : Nat) => V.int (n : Int)
theorem iv_len (l : List Nat) : (iv l).length = l.length := by simp [iv]
theorem iv_get {l : List Nat} {i : Nat} {x : V} (h : (iv l)[i]? = some x) : ∃ n, l[i]? = some n ∧ x = .int (n : Int) := by
  unfold iv at h
  rw [List.getElem?_map] at h
  cases e : l[i]? with
  | none => rw [e] at h; cases h
  | some n => rw [e] at h; exact ⟨n, rfl, (Option.some.inj h).symm⟩
def SumV (K : PySem.W.Frag) (H : Hp) (v : V) (m : Nat) : Prop := ∃ a, v = .ref a ∧ SqT K H a (iv (bts m))
theorem SumV.same {K : PySem.W.Frag} {H H' : Hp} {v : V} {m : Nat} (s : Same H H') (h : SumV K H v m) : SumV K H' v m := by
  obtain ⟨a, e, h⟩ := h
  exact ⟨a, e, sqT_same s h⟩
theorem SumV.but {K : PySem.W.Frag} {H H' : Hp} {v : V} {m : Nat} {b : Addr} {ys : List V} (hb : H b = some (.lst ys)) (s : But b H H') (h : SumV K H v m) : SumV K H' v m := by
  obtain ⟨a, e, h⟩ := h
  exact ⟨a, e, sqT_but hb s h⟩
theorem Paired.get {α β : Type} {R : α → β → Prop} : ∀ {xs : List α} {ys : List β} {i : Nat} {x : α}, Paired R xs ys → xs[i]? = some x → ∃ y, ys[i]? = some y ∧ R x y
  | _, _, i, x, .nil, h => by simp at h
  | _, _, 0, x, .cons r _, h => by
    have h := Option.some.inj h
    subst h
    exact ⟨_, rfl, r⟩
  | _, _, i + 1, x, .cons _ t, h => Paired.get (i := i) t (by simpa using h)
theorem Paired.mono2 {α β : Type} {R S : α → β → Prop} (f : ∀ a b, R a b → S a b) : ∀ {xs : List α} {ys : List β}, Paired R xs ys → Paired S xs ys
  | _, _, .nil => .nil
  | _, _, .cons r t => .cons (f _ _ r) (Paired.mono2 f t)
theorem Paired.len {α β : Type} {R : α → β → Prop} : ∀ {xs : List α} {ys : List β}, Paired R xs ys → xs.length = ys.length
  | _, _, .nil => rfl
  | _, _, .cons _ t => congrArg (· + 1) (Paired.len t)
theorem sums_same {K : PySem.W.Frag} {H H' : Hp} {us : List V} {ms : List Nat} (s : Same H H') (h : Paired (SumV K H) us ms) : Paired (SumV K H') us ms := Paired.mono2 (fun _ _ => SumV.same s) h
theorem sums_but {K : PySem.W.Frag} {H H' : Hp} {us : List V} {ms : List Nat} {b : Addr} {ys : List V} (hb : H b = some (.lst ys)) (s : But b H H') (h : Paired (SumV K H) us ms) : Paired (SumV K H') us ms := Paired.mono2 (fun _ _ => SumV.but hb s) h
def DictM (kvs : List (Key × V)) (m : Nat) : Prop := ∃ ks : List Nat, kvs = ks.map (fun (u : Nat) => ((Sum.inl (u : Int) : Key), V.bl true)) ∧ ks.Nodup ∧ ∀ u, u ∈ ks ↔ u < 63 ∧ m.testBit u = true
theorem dictM_nil : DictM [] 0 := ⟨[], rfl, List.nodup_nil, fun u => by simp⟩
theorem key_inj {a b : Nat} (h : (Sum.inl (a : Int) : Key) = Sum.inl (b : Int)) : a = b := by
  have h := Sum.inl.inj h
  omega
theorem dictM_val {kvs : List (Key × V)} {m u : Nat} (h : DictM kvs m) (hu : u < 63) : (valV kvs (Sum.inl (u : Int) : Key)).isSome = m.testBit u := by
  obtain ⟨ks, rfl, nd, hk⟩ := h
  rw [← valV_any]
  cases e : m.testBit u with
  | true =>
    refine List.any_eq_true.mpr ⟨(Sum.inl (u : Int), V.bl true), List.mem_map.mpr ⟨u, (hk u).mpr ⟨hu, e⟩, rfl⟩, by simp⟩
  | false =>
    rw [List.any_eq_false]
    intro x hx
    obtain ⟨v, hv, rfl⟩ := List.mem_map.mp hx
    simp only [decide_eq_true_eq]
    intro z
    have z := key_inj z
    subst z
    rw [((hk v).mp hv).2] at e
    cases e
theorem bit_toggle {m u v : Nat} : (m ^^^ 2 ^ u).testBit v = (if v = u then !m.testBit v else m.testBit v) := by
  rw [Nat.testBit_xor]
  by_cases e : v = u
  · subst e
    rw [if_pos rfl, Nat.testBit_two_pow_self]
    cases m.testBit v <;> rfl
  · rw [if_neg e, Nat.testBit_two_pow_of_ne (Ne.symm e)]
    cases m.testBit v <;> rfl
theorem dictM_drop {kvs : List (Key × V)} {m u : Nat} (h : DictM kvs m) (hb : m.testBit u = true) : DictM (dropK kvs (Sum.inl (u : Int) : Key)) (m ^^^ 2 ^ u) := by
  obtain ⟨ks, rfl, nd, hk⟩ := h
  refine ⟨ks.filter (fun v => decide (v ≠ u)), ?_, nd.filter _, fun v => ?_⟩
  · unfold dropK
    rw [List.filter_map]
    congr 1
    refine List.filter_congr fun v _ => ?_
    show decide ((Sum.inl (v : Int) : Key) ≠ Sum.inl (u : Int)) = decide (v ≠ u)
    by_cases e : v = u
    · subst e; simp
    · rw [decide_eq_true e]
      exact decide_eq_true fun z => e (key_inj z)
  · rw [List.mem_filter, hk, bit_toggle, decide_eq_true_eq]
    by_cases e : v = u
    · subst e
      rw [if_pos rfl, hb]
      simp
    · rw [if_neg e]
      exact ⟨fun x => x.1, fun x => ⟨x, e⟩⟩
theorem dictM_put {kvs : List (Key × V)} {m u : Nat} (h : DictM kvs m) (hu : u < 63) (hb : m.testBit u = false) : DictM (putK kvs (Sum.inl (u : Int) : Key) (.bl true)) (m ^^^ 2 ^ u) := by
  have hv := dictM_val h hu
  rw [hb] at hv
  have hn : valV kvs (Sum.inl (u : Int) : Key) = none := by
    cases e : valV kvs (Sum.inl (u : Int) : Key) with
    | none => rfl
    | some x => rw [e] at hv; cases hv
  rw [putK_new _ hn]
  obtain ⟨ks, rfl, nd, hk⟩ := h
  have nu : u ∉ ks := fun z => by rw [((hk u).mp z).2] at hb; cases hb
  refine ⟨ks ++ [u], by simp, ?_, fun v => ?_⟩
  · refine List.nodup_append.mpr ⟨nd, by simp, fun a ha b hb' => ?_⟩
    have hb' : b = u := by simpa using hb'
    subst hb'
    exact fun z => nu (z ▸ ha)
  · rw [List.mem_append, hk, bit_toggle]
    by_cases e : v = u
    · subst e
      rw [if_pos rfl, hb]
      simp [hu]
    · rw [if_neg e]
      simp [e]
theorem dictM_len {kvs : List (Key × V)} {m : Nat} (h : DictM kvs m) : kvs.length ≤ 63 := by
  obtain ⟨ks, rfl, nd, hk⟩ := h
  rw [List.length_map]
  have : ks.Perm (bts m) := (List.perm_ext_iff_of_nodup nd ((bts_lt m).imp fun h => Nat.ne_of_lt h)).mpr fun u => by rw [hk, mem_bts]
  rw [this.length_eq]
  exact bts_len m
theorem dictM_keys {kvs : List (Key × V)} {m : Nat} (h : DictM kvs m) : ∃ ks : List Int, kvs.map (·.1) = ks.map Sum.inl ∧ ks.length < 64 ∧ ∀ ys : List Int, ys.Perm ks → ys.Pairwise (· ≤ ·) → ys.map V.int = iv (bts m) := by
  have hl := dictM_len h
  obtain ⟨ks, rfl, nd, hk⟩ := h
  refine ⟨ks.map Int.ofNat, by simp [List.map_map, Function.comp_def], by simp at hl ⊢; omega, fun ys hp hs => ?_⟩
  have hy : ∀ y ∈ ys, ∃ u : Nat, y = Int.ofNat u := fun y m => by
    have := hp.mem_iff.mp m
    obtain ⟨u, _, e⟩ := List.mem_map.mp this
    exact ⟨u, e.symm⟩
  have ey : ys = (ys.map Int.toNat).map Int.ofNat := by
    rw [List.map_map]
    conv => lhs; rw [← List.map_id ys]
    refine List.map_congr_left fun y m => ?_
    obtain ⟨u, rfl⟩ := hy y m
    rfl
  have hnd : ys.Nodup := hp.nodup_iff.mpr (List.Pairwise.map _ (fun a b h e => h (Int.ofNat.inj e)) nd)
  have hlt : (ys.map Int.toNat).Pairwise (· < ·) := by
    rw [List.pairwise_map]
    refine (hs.and hnd).imp_of_mem ?_
    intro a b ha hb hab
    obtain ⟨u, rfl⟩ := hy a ha
    obtain ⟨v, rfl⟩ := hy b hb
    obtain ⟨h1, h2⟩ := hab
    have : u ≤ v := by simpa using h1
    have : u ≠ v := fun z => h2 (by rw [z])
    show u < v
    omega
  have hmem : ∀ u, u ∈ ys.map Int.toNat ↔ u < 63 ∧ m.testBit u = true := fun u => by
    rw [← hk]
    constructor
    · intro h
      obtain ⟨y, hy1, e⟩ := List.mem_map.mp h
      obtain ⟨v, hv, e2⟩ := List.mem_map.mp (hp.mem_iff.mp hy1)
      subst e2
      have e : v = u := e
      rw [← e]
      exact hv
    · intro h
      exact List.mem_map.mpr ⟨Int.ofNat u, hp.mem_iff.mpr (List.mem_map.mpr ⟨u, h, rfl⟩), rfl⟩
  have e := bts_of hlt hmem
  rw [ey, ← e]
  unfold iv
  rw [List.map_map]
  rfl
def xall (ms : List Nat) : Nat := ms.foldl (· ^^^ ·) 0
theorem xall_nil : xall [] = 0 := rfl
theorem xall_snoc (ms : List Nat) (m : Nat) : xall (ms ++ [m]) = xall ms ^^^ m := by simp [xall]
theorem xall_take {ms : List Nat} {i : Nat} {m : Nat} (h : ms[i]? = some m) : xall (ms.take (i + 1)) = xall (ms.take i) ^^^ m := by
  obtain ⟨hi, e⟩ := List.getElem?_eq_some_iff.mp h
  rw [List.take_succ_eq_append_getElem hi, e, xall_snoc]
theorem xall_lt {ms : List Nat} (h : ∀ m ∈ ms, m < 2 ^ 63) : xall ms < 2 ^ 63 := by
  have : ∀ (l : List Nat) (a : Nat), a < 2 ^ 63 → (∀ m ∈ l, m < 2 ^ 63) → l.foldl (· ^^^ ·) a < 2 ^ 63 := by
    intro l
    induction l with
    | nil => intro a ha _; exact ha
    | cons m l ih =>
      intro a ha hm
      exact ih _ (xor_lt ha (hm m List.mem_cons_self)) fun x hx => hm x (List.mem_cons_of_mem _ hx)
  exact this ms 0 (by decide) h
def msk (l : List Nat) : Nat := xall (l.map (2 ^ ·))
theorem msk_take {l : List Nat} {j u : Nat} (h : l[j]? = some u) : msk (l.take (j + 1)) = msk (l.take j) ^^^ 2 ^ u := by
  unfold msk
  rw [List.map_take, List.map_take]
  exact xall_take (by rw [List.getElem?_map, h]; rfl)
theorem msk_bit {l : List Nat} (nd : l.Nodup) (v : Nat) : (msk l).testBit v = decide (v ∈ l) := by
  suffices h : ∀ n, ∀ l : List Nat, l.length = n → l.Nodup → (msk l).testBit v = decide (v ∈ l) from h _ l rfl nd
  intro n
  induction n with
  | zero =>
    intro l hl _
    have : l = [] := List.length_eq_zero_iff.mp hl
    subst this
    simp [msk, xall]
  | succ n ih =>
    intro l hl nd
    have hne : l ≠ [] := by intro z; subst z; cases hl
    obtain ⟨pre, u, rfl⟩ : ∃ pre u, l = pre ++ [u] := ⟨l.dropLast, l.getLast hne, (List.dropLast_concat_getLast hne).symm⟩
    obtain ⟨n1, n2, n3⟩ := List.nodup_append.mp nd
    have e : msk (pre ++ [u]) = msk pre ^^^ 2 ^ u := by
      unfold msk
      rw [List.map_append]
      exact xall_snoc _ _
    rw [e, bit_toggle, ih pre (by simpa using hl) n1]
    by_cases z : v = u
    · subst z
      have : v ∉ pre := fun m => n3 v m v (by simp) rfl
      simp [this]
    · rw [if_neg z]
      simp [z]
theorem bts_nodup (m : Nat) : (bts m).Nodup := (bts_lt m).imp fun h => Nat.ne_of_lt h
theorem msk_bts {m : Nat} (h : m < 2 ^ 63) : msk (bts m) = m := by
  refine Nat.eq_of_testBit_eq fun u => ?_
  rw [msk_bit (bts_nodup m)]
  by_cases hu : u < 63
  · cases e : m.testBit u with
    | true => exact decide_eq_true (mem_bts.mpr ⟨hu, e⟩)
    | false => exact decide_eq_false fun z => by rw [(mem_bts.mp z).2] at e; cases e
  · rw [bit_ge h (by omega)]
    exact decide_eq_false fun z => hu (mem_bts.mp z).1
def lookB {β : Type} (bs : List (Nat × β)) (h : Nat) : Option β := (bs.find? fun b => decide (b.1 = h)).map (·.2)
def DictR {β : Type} (S : V → β → Prop) : List (Key × V) → List (Nat × β) → Prop := Paired fun kv b => kv.1 = Sum.inl (b.1 : Int) ∧ S kv.2 b.2
theorem DictR.imp {β : Type} {S S' : V → β → Prop} (f : ∀ v b, S v b → S' v b) {kvs : List (Key × V)} {bs : List (Nat × β)} (h : DictR S kvs bs) : DictR S' kvs bs :=
  Paired.mono2 (fun _ _ h => ⟨h.1, f _ _ h.2⟩) h
theorem DictR.val {β : Type} {S : V → β → Prop} {h : Nat} : ∀ {kvs : List (Key × V)} {bs : List (Nat × β)}, DictR S kvs bs →
    (lookB bs h = none → valV kvs (Sum.inl (h : Int) : Key) = none) ∧ (∀ b, lookB bs h = some b → ∃ v, valV kvs (Sum.inl (h : Int) : Key) = some v ∧ S v b)
  | _, _, .nil => ⟨fun _ => rfl, fun _ e => by cases e⟩
  | kv :: kvs, b :: bs, .cons ⟨r1, r2⟩ t => by
    obtain ⟨i1, i2⟩ := DictR.val (h := h) (show DictR S kvs bs from t)
    by_cases e : b.1 = h
    · have e1 : kv.1 = Sum.inl (h : Int) := by rw [r1, e]
      have l : lookB (b :: bs) h = some b.2 := by simp [lookB, List.find?_cons, e]
      rw [l, valV_pos e1]
      refine ⟨(fun z => by cases z), fun c z => ?_⟩
      have z := Option.some.inj z
      subst z
      exact ⟨_, rfl, r2⟩
    · have e1 : ¬ kv.1 = Sum.inl (h : Int) := fun z => e (key_inj (r1.symm.trans z))
      have l : lookB (b :: bs) h = lookB bs h := by simp [lookB, List.find?_cons, e]
      rw [l, valV_neg e1]
      exact ⟨i1, i2⟩
theorem DictR.put {β : Type} {S : V → β → Prop} {kvs : List (Key × V)} {bs : List (Nat × β)} {h : Nat} {v : V} {b : β} (d : DictR S kvs bs) (no : lookB bs h = none) (s : S v b) :
    DictR S (putK kvs (Sum.inl (h : Int) : Key) v) (bs ++ [(h, b)]) := by
  rw [putK_new _ (d.val.1 no)]
  exact PySem.Paired.snoc d ⟨rfl, s⟩
theorem low_cons {m h : Nat} (e : low m = some h) : ∃ t, bts m = h :: t := by
  unfold low at e
  cases q : bts m with
  | nil => rw [q] at e; cases e
  | cons x t =>
    rw [q] at e
    have e : x = h := Option.some.inj e
    subst e
    exact ⟨t, rfl⟩
theorem low_nil {m : Nat} (e : low m = none) : bts m = [] := List.head?_eq_none_iff.mp e
theorem emp_low {m : Nat} : (!(iv (bts m)).isEmpty) = (low m).isSome := by
  unfold low iv
  cases bts m <;> rfl
def PairV (K : PySem.W.Frag) (H : Hp) (v : V) (p : Nat × Nat) : Prop := ∃ t r u, v = .ref t ∧ SqT K H t [r, u] ∧ SumV K H r p.1 ∧ SumV K H u p.2
theorem PairV.same {K : PySem.W.Frag} {H H' : Hp} (s : Same H H') {v : V} {p : Nat × Nat} (h : PairV K H v p) : PairV K H' v p := by
  obtain ⟨t, r, u, e, h1, h2, h3⟩ := h
  exact ⟨t, r, u, e, sqT_same s h1, h2.same s, h3.same s⟩
def OptSum (K : PySem.W.Frag) (H : Hp) (v : V) : Option Nat → Prop
  | none => v = .non
  | some m => SumV K H v m
def sumBy (ms : List Nat) (m : Nat) : Option Nat := if (rest 64 (elim ms).1 m 0).1 = 0 then some (rest 64 (elim ms).1 m 0).2 else none
def lotOf (ms : List Nat) : Option Nat := ((elim ms).2.1.head?).map (·.2)
theorem sqT_updK {K : PySem.W.Frag} {H : Hp} {a b : Addr} {xs : List V} {kvs : List (Key × V)} {o : HO} (hb : H b = some (.dK kvs)) (h : SqT K H a xs) : SqT K (upd H b o) a xs := by
  rcases h with (h | ⟨u, h⟩) | h
  · exact .inl (.inl (by rw [upd_ne (ne_of h hb (by intro z; cases z))]; exact h))
  · exact .inl (.inr ⟨u, by rw [upd_ne (ne_of h hb (by intro z; cases z))]; exact h⟩)
  · exact .inr h
theorem SumV.updK {K : PySem.W.Frag} {H : Hp} {b : Addr} {kvs : List (Key × V)} {o : HO} {v : V} {m : Nat} (hb : H b = some (.dK kvs)) (h : SumV K H v m) : SumV K (upd H b o) v m := by
  obtain ⟨a, e, h⟩ := h
  exact ⟨a, e, sqT_updK hb h⟩
theorem PairV.updK {K : PySem.W.Frag} {H : Hp} {b : Addr} {kvs : List (Key × V)} {o : HO} {v : V} {p : Nat × Nat} (hb : H b = some (.dK kvs)) (h : PairV K H v p) : PairV K (upd H b o) v p := by
  obtain ⟨t, r, u, e, h1, h2, h3⟩ := h
  exact ⟨t, r, u, e, sqT_updK hb h1, h2.updK hb, h3.updK hb⟩
theorem bts_pow {i : Nat} (h : i < 63) : bts (2 ^ i) = [i] := by
  refine (bts_of (by simp) fun u => ?_).symm
  by_cases e : u = i
  · subst e
    simp [h]
  · rw [Nat.testBit_two_pow_of_ne (Ne.symm e)]
    simp [e]
theorem pow_lt63 {i : Nat} (h : i < 63) : 2 ^ i < 2 ^ 63 := Nat.pow_lt_pow_right (by decide) h
theorem for_enum {K : PySem.W.Frag} {a : Addr} {xs : List V} {g : TG} {tb : TS} {D : Ends} {σ : L2.St} {H : Hp} (Pv : Nat → L2.St → Hp → Prop) (h0 : Pv 0 σ H) (hl : ∀ i σ H, Pv i σ H → SqL K H a xs)
    (hs : ∀ i x T σ H, xs[i]? = some x → Pv i σ H → H T = none → g (.ref T) σ (upd H T (.tup [.int (i : Nat), x])) fun σ2 H2 => tb { D with nx := Pv (i + 1), ct := Pv (i + 1), bk := D.nx } σ2 H2)
    (hd : ∀ σ H, Pv xs.length σ H → D.nx σ H) :
    ∃ W : Nat → Nat → L2.St → Hp → Prop, (∃ m, W 0 m σ H) ∧ ∀ i m σ H, W i m σ H →
      ((Ite K a).stop i H ∧ D.nx σ H) ∨ ((Ite K a).go i H ∧ ∃ N : L2.St → Hp → Prop, (∀ σ' H', N σ' H' → ∃ m', m' < m ∧ W (i + 1) m' σ' H') ∧ ∀ x H', (Ite K a).yld i H x H' → g x σ H' fun σ2 H2 => tb { D with nx := N, ct := N, bk := D.nx } σ2 H2) := by
  refine ⟨fun i m σ H => i + m = xs.length ∧ Pv i σ H, ⟨xs.length, Nat.zero_add _, h0⟩, ?_⟩
  intro i m σ H hw
  obtain ⟨hm, p⟩ := hw
  have q := hl i σ H p
  by_cases lt : i < xs.length
  · refine .inr ⟨⟨xs, xs[i], q, List.getElem?_eq_getElem lt⟩, Pv (i + 1), fun σ' H' p' => ⟨m - 1, by omega, by omega, p'⟩, ?_⟩
    rintro x H' ⟨T, y, rfl, nT, rfl, f⟩
    have ey := (f xs q).symm.trans (List.getElem?_eq_getElem lt)
    have ey := Option.some.inj ey
    subst ey
    exact hs i _ T σ H (List.getElem?_eq_getElem lt) p nT
  · have e : i = xs.length := by omega
    subst e
    exact .inl ⟨⟨xs, q, Nat.le_refl _⟩, hd σ H p⟩
theorem cut_ints (cs : List Int) (lo hi : Option Int) (h : ∀ n ∈ cs, 0 ≤ n) : ∃ ds : List Int, cutV (cs.map V.int) lo hi = ds.map V.int ∧ (∀ n ∈ ds, 0 ≤ n) ∧ ds.length ≤ cs.length := by
  have hl := cutV_length (cs.map V.int) lo hi
  unfold cutV at hl ⊢
  rw [← List.map_drop, ← List.map_take] at hl ⊢
  refine ⟨_, rfl, fun n hn => h n (List.mem_of_mem_drop (List.mem_of_mem_take hn)), ?_⟩
  simpa using hl
end Es
set_option Elab.async false
set_option linter.all false
set_option maxRecDepth 100000
set_option maxHeartbeats 4000000
namespace Es
open PySem PySem.Spec PyProof.Rows L2
theorem and_one (n : Nat) : Builtin.bitAnd (n : Int) 1 = ((n % 2 : Nat) : Int) := by
  rw [bitAnd_pp (Int.natCast_nonneg _) (by decide)]
  show ((n &&& 1 : Nat) : Int) = _
  rw [Nat.and_one_is_mod]
theorem shr_nat (m u : Nat) : (m : Int) / 2 ^ ((u : Int).toNat) = ((m / 2 ^ u : Nat) : Int) := by
  rw [Int.toNat_natCast]
  norm_cast
theorem shr_and (m u : Nat) : Builtin.bitAnd ((m : Int) / 2 ^ ((u : Int).toNat)) 1 = if m.testBit u = true then 1 else 0 := by
  rw [shr_nat, and_one]
  have e : m.testBit u = decide (m / 2 ^ u % 2 = 1) := Nat.testBit_eq_decide_div_mod_eq
  rw [e]
  by_cases h : m / 2 ^ u % 2 = 1
  · rw [if_pos (decide_eq_true h), h]; rfl
  · rw [if_neg (by simp [h])]
    have : m / 2 ^ u % 2 = 0 := by omega
    rw [this]; rfl
theorem xor_nat (a b : Nat) : Builtin.bitXor (a : Int) (b : Int) = ((a ^^^ b : Nat) : Int) := by
  rw [Bits.bitXor_pp (Int.natCast_nonneg _) (Int.natCast_nonneg _), Int.toNat_natCast, Int.toNat_natCast]
theorem or_nat (a b : Nat) : Builtin.bitOr (a : Int) (b : Int) = ((a ||| b : Nat) : Int) := by
  rw [Bits.bitOr_pp (Int.natCast_nonneg _) (Int.natCast_nonneg _), Int.toNat_natCast, Int.toNat_natCast]
theorem shl_one (u : Nat) : (1 : Int) * 2 ^ ((u : Int).toNat) = ((2 ^ u : Nat) : Int) := by
  rw [Int.toNat_natCast]
  norm_cast
  rw [Nat.one_mul]
theorem and_negG {m l : Nat} (h2 : m.testBit l = true) (h3 : ∀ j, j < l → m.testBit j = false) : Builtin.bitAnd (m : Int) (-(m : Int)) = ((2 ^ l : Nat) : Int) := by
  have z : m % 2 ^ l = 0 := by
    refine Nat.eq_of_testBit_eq fun j => ?_
    rw [Nat.testBit_mod_two_pow, Nat.zero_testBit]
    by_cases hj : j < l
    · rw [h3 j hj, Bool.and_false]
    · rw [decide_eq_false hj, Bool.false_and]
  have o : m / 2 ^ l % 2 = 1 := by
    have := h2
    rw [Nat.testBit_eq_decide_div_mod_eq] at this
    exact of_decide_eq_true this
  have p0 : 0 < 2 ^ l := Nat.two_pow_pos l
  obtain ⟨q, hq⟩ : ∃ q, m / 2 ^ l = 2 * q + 1 := ⟨m / 2 ^ l / 2, by omega⟩
  have p1 : 2 ^ (l + 1) = 2 * 2 ^ l := by rw [Nat.pow_succ]; omega
  have em : m = 2 ^ (l + 1) * q + 2 ^ l := by
    have d := Nat.div_add_mod m (2 ^ l)
    rw [z, hq] at d
    have e2 : 2 ^ l * (2 * q + 1) = 2 * (2 ^ l * q) + 2 ^ l := by rw [Nat.mul_add, Nat.mul_one, Nat.mul_left_comm]
    have e3 : 2 ^ (l + 1) * q = 2 * (2 ^ l * q) := by rw [p1, Nat.mul_assoc]
    omega
  have mpos : 0 < m := by omega
  have em1 : m - 1 = 2 ^ (l + 1) * q + (2 ^ l - 1) := by omega
  have ea : m &&& (m - 1) = 2 ^ (l + 1) * q := by
    refine Nat.eq_of_testBit_eq fun j => ?_
    rw [Nat.testBit_and]
    have a1 : m.testBit j = if j < l + 1 then (2 ^ l).testBit j else q.testBit (j - (l + 1)) := by
      conv => lhs; rw [em]
      exact Nat.testBit_two_pow_mul_add q (by omega) j
    have a2 : (m - 1).testBit j = if j < l + 1 then (2 ^ l - 1).testBit j else q.testBit (j - (l + 1)) := by
      rw [em1]
      exact Nat.testBit_two_pow_mul_add q (by omega) j
    have a3 : (2 ^ (l + 1) * q).testBit j = if j < l + 1 then (0 : Nat).testBit j else q.testBit (j - (l + 1)) := by
      have := Nat.testBit_two_pow_mul_add q (b := 0) (i := l + 1) (Nat.two_pow_pos _) j
      rw [Nat.add_zero] at this
      exact this
    rw [a1, a2, a3]
    by_cases hj : j < l + 1
    · rw [if_pos hj, if_pos hj, if_pos hj, Nat.zero_testBit]
      by_cases e : j = l
      · subst e
        rw [Nat.testBit_two_pow_sub_one, decide_eq_false (Nat.lt_irrefl _), Bool.and_false]
      · rw [Nat.testBit_two_pow_of_ne (Ne.symm e), Bool.false_and]
    · rw [if_neg hj, if_neg hj, if_neg hj, Bool.and_self]
  rw [bitAnd_pn (Int.natCast_nonneg _) (by omega), Int.toNat_natCast]
  have eb : (Builtin.bitNot (-(m : Int))).toNat = m - 1 := by
    unfold Builtin.bitNot
    omega
  rw [eb, ea]
  omega
theorem and_neg {m l : Nat} (h : low m = some l) : Builtin.bitAnd (m : Int) (-(m : Int)) = ((2 ^ l : Nat) : Int) := and_negG (low_iff.mp h).2.1 (low_iff.mp h).2.2
theorem bits_pow (l : Nat) : Builtin.Int.intBits ((2 ^ l : Nat) : Int) = l + 1 := by
  unfold Builtin.Int.intBits
  have p : 0 < 2 ^ l := Nat.two_pow_pos l
  have h : ((((2 ^ l : Nat) : Int)) == 0) = false := by
    rw [beq_eq_false_iff_ne]
    omega
  rw [h]
  show (((2 ^ l : Nat) : Int)).natAbs.log2 + 1 = l + 1
  rw [Int.natAbs_natCast, Nat.log2_two_pow]
theorem lt_bits (m : Nat) : m < 2 ^ Builtin.Int.intBits (m : Int) := by
  unfold Builtin.Int.intBits
  by_cases h : m = 0
  · subst h
    decide
  · have e : (((m : Int)) == 0) = false := by
      rw [beq_eq_false_iff_ne]
      omega
    rw [e]
    show m < 2 ^ ((m : Int).natAbs.log2 + 1)
    rw [Int.natAbs_natCast]
    exact Nat.lt_log2_self
end Es
set_option Elab.async false
set_option linter.all false
set_option maxRecDepth 100000
set_option maxHeartbeats 4000000
namespace Es
open PySem PySem.Spec PyProof.Rows L2
def sp_together (K : PySem.W.Frag) : Sp := fun vs H Q _ => ∃ (a : Addr) (us : List V) (ms : List Nat), vs = [.ref a] ∧ SqL K H a us ∧ Paired (SumV K H) us ms ∧ (∀ m ∈ ms, m < 2 ^ 63) ∧
  ∀ H' p, Same H H' → H p = none → H' p = some (.tup (iv (bts (xall ms)))) → Q (.ref p) H'
def sp_rest (K : PySem.W.Frag) : Sp := fun vs H Q _ => ∃ (d : Addr) (kvs : List (Key × V)) (bs : List (Nat × Nat × Nat)) (vr vu : V) (m u : Nat), vs = [.ref d, vr, vu] ∧ H d = some (.dK kvs) ∧ DictR (PairV K H) kvs bs ∧
  (∀ b ∈ bs, low b.2.1 = some b.1 ∧ b.2.1 < 2 ^ 63 ∧ b.2.2 < 2 ^ 63) ∧ SumV K H vr m ∧ SumV K H vu u ∧ m < 2 ^ 63 ∧ u < 2 ^ 63 ∧
  ∀ H' p r v, Same H H' → H p = none → H' p = some (.tup [r, v]) → SumV K H' r (rest 64 bs m u).1 → SumV K H' v (rest 64 bs m u).2 → Q (.ref p) H'
def Sums (K : PySem.W.Frag) (H : Hp) (a : Addr) (us : List V) (ms : List Nat) : Prop := SqL K H a us ∧ Paired (SumV K H) us ms ∧ (∀ m ∈ ms, m < 2 ^ 63) ∧ ms.length ≤ 62
def sp_eliminated (K : PySem.W.Frag) : Sp := fun vs H Q _ => ∃ (a : Addr) (us : List V) (ms : List Nat), vs = [.ref a] ∧ Sums K H a us ms ∧
  ∀ H' p d1 d2 k1 k2, Same H H' → H p = none → H' p = some (.tup [.ref d1, .ref d2]) → H d1 = none → H d2 = none → H' d1 = some (.dK k1) → H' d2 = some (.dK k2) →
    DictR (PairV K H') k1 (elim ms).1 → DictR (SumV K H') k2 (elim ms).2.1 → Q (.ref p) H'
def sp_sum_by (K : PySem.W.Frag) : Sp := fun vs H Q _ => ∃ (a : Addr) (us : List V) (ms : List Nat) (vr : V) (m : Nat), vs = [.ref a, vr] ∧ Sums K H a us ms ∧ SumV K H vr m ∧ m < 2 ^ 63 ∧
  ∀ H' v, Same H H' → OptSum K H' v (sumBy ms m) → Q v H'
def sp_dependent_lot (K : PySem.W.Frag) : Sp := fun vs H Q _ => ∃ (a : Addr) (us : List V) (ms : List Nat), vs = [.ref a] ∧ Sums K H a us ms ∧
  ∀ H' v, Same H H' → OptSum K H' v (lotOf ms) → Q v H'
def sp_independent_among (K : PySem.W.Frag) : Sp := fun vs H Q _ => ∃ (a : Addr) (us : List V) (ms : List Nat), vs = [.ref a] ∧ Sums K H a us ms ∧
  ∀ H' p, Same H H' → H p = none → H' p = some (.lst (iv (indep ms))) → Q (.ref p) H'
def sp_rank_of (K : PySem.W.Frag) : Sp := fun vs H Q _ => ∃ (a : Addr) (us : List V) (ms : List Nat), vs = [.ref a] ∧ Sums K H a us ms ∧
  ∀ H', Same H H' → Q (.int ((indep ms).length : Nat)) H'
def BagAt (K : PySem.W.Frag) (H : Hp) (b c : Addr) : Prop := ∃ (x y z : Int) (cs : List Int), H b = some (.lst [.int x, .int y, .int z, .ref c]) ∧ SqL K H c (cs.map V.int) ∧ b ≠ c ∧ 0 ≤ x ∧ 0 ≤ y ∧ y < 2147483647 ∧ 0 ≤ z ∧ (∀ n ∈ cs, 0 ≤ n) ∧ cs.length ≤ 63
theorem sqL_but {K : PySem.W.Frag} {H H' : Hp} {a b : Addr} {xs : List V} (n : a ≠ b) (s : But b H H') (h : SqL K H a xs) : SqL K H' a xs := by
  rcases h with (h | ⟨o, h⟩) | h
  · exact .inl (.inl (s _ _ n h))
  · exact .inl (.inr ⟨o, s _ _ n h⟩)
  · exact .inr h
theorem BagAt.same {K : PySem.W.Frag} {H H' : Hp} {b c : Addr} (s : Same H H') (h : BagAt K H b c) : BagAt K H' b c := by
  obtain ⟨x, y, z, cs, h1, h2, h3⟩ := h
  exact ⟨x, y, z, cs, s _ _ h1, s.seq h2, h3⟩
theorem BagAt.lst {K : PySem.W.Frag} {H : Hp} {b c : Addr} (h : BagAt K H b c) : ∃ ys, H b = some (.lst ys) := by
  obtain ⟨x, y, z, cs, h1, _⟩ := h
  exact ⟨_, h1⟩
theorem SumV.bag {K : PySem.W.Frag} {H H' : Hp} {b c : Addr} {v : V} {m : Nat} (B : BagAt K H b c) (s : But b H H') (h : SumV K H v m) : SumV K H' v m := by
  obtain ⟨ys, e⟩ := B.lst
  exact h.but e s
theorem sums_bag {K : PySem.W.Frag} {H H' : Hp} {b c : Addr} {us : List V} {ms : List Nat} (B : BagAt K H b c) (s : But b H H') (h : Paired (SumV K H) us ms) : Paired (SumV K H') us ms := by
  obtain ⟨ys, e⟩ := B.lst
  exact sums_but e s h
theorem sqT_bag {K : PySem.W.Frag} {H H' : Hp} {a b c : Addr} {xs : List V} (B : BagAt K H b c) (s : But b H H') (h : SqT K H a xs) : SqT K H' a xs := by
  obtain ⟨ys, e⟩ := B.lst
  exact sqT_but e s h
theorem But.free {b : Addr} {H H' : Hp} (s : But b H H') {a : Addr} (n : a ≠ b) (h : H' a = none) : H a = none := by
  cases e : H a with
  | none => rfl
  | some o =>
    rw [s a o n e] at h
    cases h
def sp_law_take (K : PySem.W.Frag) : Sp := fun vs H Q _ => ∃ (b c : Addr) (n : Nat), vs = [.ref b, .int (n : Int)] ∧ BagAt K H b c ∧ 0 < n ∧ n < 1073741824 ∧
  ∀ H' (r : Nat), But b H H' → BagAt K H' b c → r < n → Q (.int (r : Int)) H'
def Sq (K : PySem.W.Frag) (H : Hp) (a : Addr) (xs : List V) : Prop := SqL K H a xs ∨ SqT K H a xs
def sp_law_some (K : PySem.W.Frag) : Sp := fun vs H Q _ => ∃ (b c l : Addr) (xs : List V), vs = [.ref b, .ref l] ∧ BagAt K H b c ∧ l ≠ b ∧ Sq K H l xs ∧ 0 < xs.length ∧ xs.length < 1073741824 ∧
  ∀ (H' : Hp) (r : Nat) (v : V), But b H H' → BagAt K H' b c → xs[r]? = some v → Q v H'
def sp_law_bag (K : PySem.W.Frag) : Sp := fun vs H Q _ => ∃ (a : Addr) (ns : List Int), vs = [.ref a] ∧ SqL K H a (ns.map V.int) ∧ ns.length ≤ 63 ∧
  ∀ H' b c, Same H H' → H b = none → H c = none → BagAt K H' b c → Q (.ref b) H'
def sp_law_alike (K : PySem.W.Frag) : Sp := fun vs H Q _ => ∃ (x y : V) (d : PyData), vs = [x, y] ∧ Dp K H x d ∧ Dp K H y d ∧ nice d = true ∧ d.depth ≤ 40 ∧ d.weight ≤ 2 ^ 20 ∧ Q (.bl true) H
def sp_law_mask (K : PySem.W.Frag) : Sp := fun vs H Q _ => ∃ (v : V) (m : Nat), vs = [v] ∧ SumV K H v m ∧ m < 2 ^ 63 ∧ Q (.int (m : Int)) H
def sp_law_row (K : PySem.W.Frag) : Sp := fun vs H Q _ => ∃ (m : Nat), vs = [.int (m : Int)] ∧ m < 2 ^ 63 ∧ ∀ H' p, Same H H' → H p = none → H' p = some (.tup (iv (bts m))) → Q (.ref p) H'
def wsum (m : Nat) (bs : List Nat) : Nat := ((bts m).map fun u => bs.getD u 0).sum
def sp_worth_of (K : PySem.W.Frag) : Sp := fun vs H Q _ => ∃ (v : V) (b : Addr) (m : Nat) (bs : List Nat), vs = [v, .ref b] ∧ SumV K H v m ∧ SqT K H b (iv bs) ∧ (∀ u ∈ bts m, u < bs.length) ∧
  ∀ H', Same H H' → Q (.int ((wsum m bs % 2 : Nat) : Int)) H'
def sp_law_worth (K : PySem.W.Frag) : Sp := sp_worth_of K
theorem iv_ints (l : List Nat) : iv l = (l.map Int.ofNat).map V.int := by
  unfold iv
  rw [List.map_map]
  rfl
theorem sum_nat : ∀ l : List Nat, (l.map Int.ofNat).sum = ((l.sum : Nat) : Int)
  | [] => rfl
  | x :: l => by
    rw [List.map_cons, List.sum_cons, List.sum_cons, sum_nat l]
    simp
def LineV (K : PySem.W.Frag) (H : Hp) (v : V) (l : Nat × Nat) : Prop := ∃ t r, v = .ref t ∧ SqT K H t [r, .int (l.2 : Int)] ∧ SumV K H r l.1
theorem LineV.same {K : PySem.W.Frag} {H H' : Hp} (s : Same H H') {v : V} {l : Nat × Nat} (h : LineV K H v l) : LineV K H' v l := by
  obtain ⟨t, r, e, h1, h2⟩ := h
  exact ⟨t, r, e, sqT_same s h1, h2.same s⟩
def sp_law_flat_of (K : PySem.W.Frag) : Sp := fun vs H Q _ => ∃ (a : Addr) (us : List V) (ls : List (Nat × Nat)), vs = [.ref a] ∧ SqL K H a us ∧ Paired (LineV K H) us ls ∧ (∀ l ∈ ls, l.1 < 2 ^ 63) ∧
  (lflat ls = none → ∀ H', Same H H' → Q .non H') ∧
  (∀ hs, lflat ls = some hs → ∀ H' p ys, Same H H' → H p = none → H' p = some (.tup ys) → ys.length = hs.length → Q (.ref p) H')
def sp_law_rank (K : PySem.W.Frag) : Sp := fun vs H Q _ => ∃ (a : Addr) (us : List V) (ms : List Nat), vs = [.ref a] ∧ SqL K H a us ∧ Paired (SumV K H) us ms ∧ (∀ m ∈ ms, m < 2 ^ 63) ∧ ms.length ≤ 100 ∧
  ∀ H', Same H H' → Q (.int ((lrank ms : Nat) : Int)) H'
def PairI (K : PySem.W.Frag) (H : Hp) (v : V) (p : Nat × Nat) : Prop := ∃ t, v = .ref t ∧ SqT K H t [.int (p.1 : Int), .int (p.2 : Int)]
theorem PairI.same {K : PySem.W.Frag} {H H' : Hp} (s : Same H H') {v : V} {p : Nat × Nat} (h : PairI K H v p) : PairI K H' v p := by
  obtain ⟨t, e, h⟩ := h
  exact ⟨t, e, sqT_same s h⟩
theorem PairI.updK {K : PySem.W.Frag} {H : Hp} {b : Addr} {kvs : List (Key × V)} {o : HO} {v : V} {p : Nat × Nat} (hb : H b = some (.dK kvs)) (h : PairI K H v p) : PairI K (upd H b o) v p := by
  obtain ⟨t, e, h⟩ := h
  exact ⟨t, e, sqT_updK hb h⟩
theorem DictR.keys {β : Type} {S : V → β → Prop} : ∀ {kvs : List (Key × V)} {bs : List (Nat × β)}, DictR S kvs bs → kvs.map (·.1) = (bs.map fun b => Int.ofNat b.1).map Sum.inl
  | _, _, .nil => rfl
  | kv :: kvs, b :: bs, .cons ⟨r1, _⟩ t => by
    have ih := DictR.keys (show DictR S kvs bs from t)
    rw [List.map_cons, List.map_cons, List.map_cons, ih, r1]
    rfl
theorem DictR.sorted {β : Type} {S : V → β → Prop} {kvs : List (Key × V)} {bs : List (Nat × β)} (d : DictR S kvs bs) (nd : (bs.map (·.1)).Nodup) (h63 : ∀ b ∈ bs, b.1 < 63) :
    (bs.map fun b => Int.ofNat b.1).length < 64 ∧ ∀ ys : List Int, ys.Perm (bs.map fun b => Int.ofNat b.1) → ys.Pairwise (· ≤ ·) → ys.map V.int = iv (srt (bs.map (·.1))) := by
  have hm : ∀ u, u ∈ bs.map (·.1) ↔ u < 63 ∧ (msk (bs.map (·.1))).testBit u = true := fun u => by
    rw [msk_bit nd, decide_eq_true_eq]
    constructor
    · intro h
      obtain ⟨b, hb, e⟩ := List.mem_map.mp h
      exact ⟨e ▸ h63 b hb, h⟩
    · exact fun h => h.2
  obtain ⟨ks, k1, k2, k3⟩ := dictM_keys (kvs := (bs.map (·.1)).map fun (u : Nat) => ((Sum.inl (u : Int) : Key), V.bl true)) ⟨bs.map (·.1), rfl, nd, hm⟩
  have ek : ks = bs.map fun b => Int.ofNat b.1 := by
    have e1 : ks.map (Sum.inl : Int → Key) = (bs.map fun b => Int.ofNat b.1).map Sum.inl := by
      rw [← k1, List.map_map, List.map_map, List.map_map]
      rfl
    exact (List.map_inj_right (fun a b h => Sum.inl.inj h)).mp e1
  subst ek
  refine ⟨k2, fun ys hp hs => ?_⟩
  rw [k3 ys hp hs]
  congr 1
  refine (bts_of (srt_lt _) fun u => ?_).symm
  rw [mem_srt, hm]
  exact ⟨fun h => h.2, fun h => ⟨h.1, h⟩⟩
theorem DictR.set {β : Type} {S : V → β → Prop} {h : Nat} {v : V} {b : β} (s : S v b) {kvs : List (Key × V)} {bs : List (Nat × β)} (d : DictR S kvs bs) (hh : h ∈ bs.map (·.1)) :
    DictR S (putK kvs (Sum.inl (h : Int) : Key) v) (bs.map fun e => if e.1 = h then (h, b) else e) := by
  have go : ∀ {kvs : List (Key × V)} {bs : List (Nat × β)}, DictR S kvs bs → DictR S (kvs.map fun kv => if kv.1 = (Sum.inl (h : Int) : Key) then (kv.1, v) else kv) (bs.map fun e => if e.1 = h then (h, b) else e) := by
    intro kvs bs d
    induction d with
    | nil => exact .nil
    | @cons kv e l1 l2 r t ih =>
      rw [List.map_cons, List.map_cons]
      refine .cons ?_ ih
      by_cases q : e.1 = h
      · have q2 : kv.1 = (Sum.inl (h : Int) : Key) := by rw [r.1, q]
        rw [if_pos q, if_pos q2]
        exact ⟨q2, s⟩
      · have q2 : ¬ kv.1 = (Sum.inl (h : Int) : Key) := fun z => q (key_inj (r.1.symm.trans z))
        rw [if_neg q, if_neg q2]
        exact r
  unfold putK
  have e : (kvs.any fun kv => decide (kv.1 = (Sum.inl (h : Int) : Key))) = true := by
    rw [valV_any]
    obtain ⟨v1, v2⟩ := d.val (h := h)
    cases q : lookB bs h with
    | none =>
      unfold lookB at q
      rw [Option.map_eq_none_iff, List.find?_eq_none] at q
      obtain ⟨x, hx, ex⟩ := List.mem_map.mp hh
      exact absurd (decide_eq_true ex) (q x hx)
    | some b' =>
      obtain ⟨w, ew, _⟩ := v2 b' q
      rw [ew]
      rfl
  rw [if_pos e]
  exact go d
def lputTo (hs : List (Nat × Nat × Nat)) (S : List Nat) (a : Nat) (p : Nat × Nat) : List (Nat × Nat × Nat) :=
  hs.map fun e => if e.1 ∈ S ∧ e.2.1.testBit a = true then (e.1, e.2.1 ^^^ p.1, e.2.2 ^^^ p.2) else e
theorem lputTo_keys (hs : List (Nat × Nat × Nat)) (S : List Nat) (a : Nat) (p : Nat × Nat) : (lputTo hs S a p).map (·.1) = hs.map (·.1) := by
  unfold lputTo
  rw [List.map_map]
  refine List.map_congr_left fun e _ => ?_
  show (if _ then _ else _ : Nat × Nat × Nat).1 = e.1
  split <;> rfl
theorem lputTo_nil (hs : List (Nat × Nat × Nat)) (a : Nat) (p : Nat × Nat) : lputTo hs [] a p = hs := by
  unfold lputTo
  conv => rhs; rw [← List.map_id hs]
  refine List.map_congr_left fun e _ => ?_
  rw [if_neg (by simp)]
  rfl
theorem lputTo_all (hs : List (Nat × Nat × Nat)) (h63 : ∀ e ∈ hs, e.1 < 63) (a : Nat) (p : Nat × Nat) : lputTo hs (srt (hs.map (·.1))) a p ++ [(a, p.1, p.2)] = lput hs a p := by
  unfold lputTo lput
  congr 1
  refine List.map_congr_left fun e he => ?_
  have hm : e.1 ∈ srt (hs.map (·.1)) := mem_srt.mpr ⟨h63 e he, List.mem_map.mpr ⟨e, he, rfl⟩⟩
  by_cases hb : e.2.1.testBit a = true
  · rw [if_pos ⟨hm, hb⟩, if_pos hb]
  · rw [if_neg fun z => hb z.2, if_neg hb]
theorem look_nd : ∀ {hs : List (Nat × Nat × Nat)}, (hs.map (·.1)).Nodup → ∀ {e : Nat × Nat × Nat}, e ∈ hs → look hs e.1 = some e.2
  | [], _, e, h => by cases h
  | x :: hs, nd, e, h => by
    have nd : (x.1 :: hs.map (·.1)).Nodup := nd
    obtain ⟨n1, n2⟩ := List.nodup_cons.mp nd
    rcases List.mem_cons.mp h with rfl | h
    · simp [look, List.find?_cons]
    · have ne : x.1 ≠ e.1 := fun z => n1 (z ▸ List.mem_map.mpr ⟨e, h, rfl⟩)
      have ih := look_nd n2 h
      unfold look at ih ⊢
      rw [List.find?_cons, decide_eq_false ne]
      exact ih
theorem lputTo_step {hs : List (Nat × Nat × Nat)} (nd : (hs.map (·.1)).Nodup) {S : List Nat} {h a : Nat} {p q : Nat × Nat} (hn : h ∉ S) (hq : look hs h = some q) :
    look (lputTo hs S a p) h = some q ∧
    (q.1.testBit a = true → (lputTo hs S a p).map (fun e => if e.1 = h then (h, q.1 ^^^ p.1, q.2 ^^^ p.2) else e) = lputTo hs (S ++ [h]) a p) ∧
    (q.1.testBit a = false → lputTo hs S a p = lputTo hs (S ++ [h]) a p) := by
  have mem := look_mem hq
  have uniq : ∀ e ∈ hs, e.1 = h → e = (h, q) := fun e he z => by
    have := look_nd nd he
    rw [z, hq] at this
    have := Option.some.inj this
    obtain ⟨x, y⟩ := e
    simp only at z this
    rw [z, this]
  refine ⟨?_, fun hb => ?_, fun hb => ?_⟩
  · have m2 : (h, q) ∈ lputTo hs S a p := List.mem_map.mpr ⟨(h, q), mem, if_neg fun z => hn z.1⟩
    exact look_nd (by rw [lputTo_keys]; exact nd) m2
  · unfold lputTo
    rw [List.map_map]
    refine List.map_congr_left fun e he => ?_
    show (if (if e.1 ∈ S ∧ e.2.1.testBit a = true then (e.1, e.2.1 ^^^ p.1, e.2.2 ^^^ p.2) else e).1 = h then (h, q.1 ^^^ p.1, q.2 ^^^ p.2) else (if e.1 ∈ S ∧ e.2.1.testBit a = true then (e.1, e.2.1 ^^^ p.1, e.2.2 ^^^ p.2) else e)) = _
    by_cases z : e.1 = h
    · have e0 := uniq e he z
      subst e0
      have n1 : ¬ ((h, q).1 ∈ S ∧ ((h, q) : Nat × Nat × Nat).2.1.testBit a = true) := fun y => hn y.1
      rw [if_neg n1, if_pos z, if_pos ⟨List.mem_append_right _ (by simp), hb⟩]
    · have k1 : (if e.1 ∈ S ∧ e.2.1.testBit a = true then (e.1, e.2.1 ^^^ p.1, e.2.2 ^^^ p.2) else e).1 = e.1 := by split <;> rfl
      rw [k1, if_neg z]
      by_cases c : e.1 ∈ S ∧ e.2.1.testBit a = true
      · rw [if_pos c, if_pos ⟨List.mem_append_left _ c.1, c.2⟩]
      · rw [if_neg c, if_neg fun y => c ⟨(List.mem_append.mp y.1).resolve_right (by simpa using z), y.2⟩]
  · unfold lputTo
    refine List.map_congr_left fun e he => ?_
    by_cases z : e.1 = h
    · have e0 := uniq e he z
      subst e0
      rw [if_neg fun z => hn z.1, if_neg fun y => by rw [show ((h, q).2.1).testBit a = false from hb] at y; exact absurd y.2 Bool.false_ne_true]
    · by_cases c : e.1 ∈ S ∧ e.2.1.testBit a = true
      · rw [if_pos c, if_pos ⟨List.mem_append_left _ c.1, c.2⟩]
      · rw [if_neg c, if_neg fun y => c ⟨(List.mem_append.mp y.1).resolve_right (by simpa using z), y.2⟩]
theorem lflat_red : ∀ (ls : List (Nat × Nat)), (∀ l ∈ ls, l.1 < 2 ^ 63) → ∀ hs, lflat ls = some hs → RedOk hs := by
  intro ls
  suffices h : ∀ n, ∀ ls : List (Nat × Nat), ls.length = n → (∀ l ∈ ls, l.1 < 2 ^ 63) → ∀ hs, lflat ls = some hs → RedOk hs from h _ ls rfl
  intro n
  induction n with
  | zero =>
    intro ls hl _ hs e
    have : ls = [] := List.length_eq_zero_iff.mp hl
    subst this
    have e : some [] = some hs := e
    have e := Option.some.inj e
    subst e
    exact ⟨List.nodup_nil, (fun e he => by cases he), (fun e he => by cases he)⟩
  | succ n ih =>
    intro ls hl hm hs e
    have hne : ls ≠ [] := by intro z; subst z; cases hl
    obtain ⟨pre, l, rfl⟩ : ∃ pre l, ls = pre ++ [l] := ⟨ls.dropLast, ls.getLast hne, (List.dropLast_concat_getLast hne).symm⟩
    rw [lflat_snoc] at e
    obtain ⟨hs0, e0, e1⟩ := Option.bind_eq_some_iff.mp e
    have R := ih pre (by simpa using hl) (fun x hx => hm x (List.mem_append_left _ hx)) hs0 e0
    obtain ⟨l1, _, l3⟩ := lred_spec R (p := l) (hm l (List.mem_append_right _ List.mem_cons_self))
    unfold lstep at e1
    cases q : low (lred hs0 l).1 with
    | none =>
      rw [q] at e1
      simp only at e1
      split at e1
      · cases e1
      · have e1 := Option.some.inj e1
        subst e1
        exact R
    | some a =>
      rw [q] at e1
      have e1 := Option.some.inj e1
      subst e1
      exact (lput_ok R l1 q l3).1
theorem lflat_take {ls : List (Nat × Nat)} {i : Nat} {l : Nat × Nat} (h : ls[i]? = some l) : lflat (ls.take (i + 1)) = (lflat (ls.take i)).bind fun hs => lstep hs l := by
  obtain ⟨hi, e⟩ := List.getElem?_eq_some_iff.mp h
  rw [List.take_succ_eq_append_getElem hi, e, lflat_snoc]
theorem lflat_none_take {ls : List (Nat × Nat)} {i : Nat} (h : lflat (ls.take i) = none) : lflat ls = none := by
  have : lflat ls = (ls.drop i).foldl (fun o l => o.bind fun hs => lstep hs l) (lflat (ls.take i)) := by
    unfold lflat
    rw [← List.foldl_append, List.take_append_drop]
  rw [this, h]
  generalize ls.drop i = r
  induction r with
  | nil => rfl
  | cons x r ih => exact ih
def sumD (m : Nat) : PyData := .tuple (((bts m).map Int.ofNat).map .int)
def lineD (l : Nat × Nat) : PyData := .tuple [sumD l.1, .int (l.2 : Int)]
theorem dp_ints {K : PySem.W.Frag} {H : Hp} : ∀ ns : List Int, DpAll K H (ns.map V.int) (ns.map .int)
  | [] => .nil
  | n :: ns => .cons (.int n) (dp_ints ns)
theorem dp_sum {K : PySem.W.Frag} {H : Hp} {v : V} {m : Nat} (h : SumV K H v m) : Dp K H v (sumD m) := by
  obtain ⟨a, rfl, h⟩ := h
  rw [iv_ints] at h
  exact .tup h (dp_ints _)
theorem dp_line {K : PySem.W.Frag} {H : Hp} {v : V} {l : Nat × Nat} (h : LineV K H v l) : Dp K H v (lineD l) := by
  obtain ⟨t, r, rfl, h1, h2⟩ := h
  exact .tup h1 (.cons (dp_sum h2) (.cons (.int _) .nil))
theorem depth_ints : ∀ ns : List Int, PyData.depthAll (ns.map .int) = 0
  | [] => rfl
  | n :: ns => by
    show max (PyData.depth (.int n)) (PyData.depthAll (ns.map .int)) = 0
    rw [depth_ints ns]
    rfl
theorem depth_sumD (m : Nat) : (sumD m).depth = 1 := by
  show PyData.depthAll _ + 1 = 1
  rw [depth_ints]
theorem depth_lineD (l : Nat × Nat) : (lineD l).depth = 2 := by
  show max (sumD l.1).depth (max (PyData.depth (.int (l.2 : Int))) 0) + 1 = 2
  rw [depth_sumD]
  rfl
theorem alike_lineD (l k : Nat × Nat) : PySem.W.alike (lineD l) (lineD k) = true := by
  show PySem.W.alikeAll [sumD l.1, .int (l.2 : Int)] [sumD k.1, .int (k.2 : Int)] = true
  have e : PySem.W.alike (sumD l.1) (sumD k.1) = true := PySem.W.alike_ints _ _
  simp [PySem.W.alikeAll, e, PySem.W.alike]
theorem LineV.but {K : PySem.W.Frag} {H H' : Hp} {b : Addr} {ys : List V} (hb : H b = some (.lst ys)) (s : But b H H') {v : V} {l : Nat × Nat} (h : LineV K H v l) : LineV K H' v l := by
  obtain ⟨t, r, e, h1, h2⟩ := h
  exact ⟨t, r, e, sqT_but hb s h1, h2.but hb s⟩
theorem tyT {K : PySem.W.Frag} {H : Hp} {a : Addr} {xs : List V} (h : SqT K H a xs) : TyX K H (.ref a) (.type "tuple") := by
  rcases h with (h | ⟨o, h⟩) | ⟨o, its, n, h, c, _⟩
  · exact .base (.tup h)
  · exact .fTuple h
  · exact .kTuple h c
def rLenK (K : PySem.W.Frag) : List V → Hp → VK → Prop := fun xs H Q => ∃ p ys, xs = [.ref p] ∧ (SqL K H p ys ∨ SqT K H p ys) ∧ Q (.int ys.length) H
def sp_law_any_row (K : PySem.W.Frag) : Sp := fun vs H Q _ => ∃ (b c : Addr) (n : Nat), vs = [.ref b, .int (n : Int)] ∧ BagAt K H b c ∧ 0 < n ∧ n ≤ 62 ∧
  ∀ H' v m, But b H H' → BagAt K H' b c → SumV K H' v m → m < 2 ^ n → m ≠ 0 → Q v H'
def sp_law_is_whole (K : PySem.W.Frag) : Sp := fun vs H Q _ => ∃ (i : Int), vs = [.int i] ∧ Q (.bl true) H
def sp_law_is_in (K : PySem.W.Frag) : Sp := fun vs H Q _ => ∃ (i n : Int), vs = [.int i, .int n] ∧ Q (.bl (decide (0 ≤ i) && decide (i < n))) H
def sp_law_is_sum (K : PySem.W.Frag) : Sp := fun vs H Q _ => ∃ (n m : Nat) (v : V), vs = [.int (n : Int), v] ∧ SumV K H v m ∧ m < 2 ^ n ∧ n ≤ 63 ∧ ∀ H', Same H H' → Q (.bl true) H'
def sp_law_are_some (K : PySem.W.Frag) : Sp := sp_law_is_sum K
def sp_law_all_of (K : PySem.W.Frag) : Sp := fun vs H Q _ => ∃ (a : Addr) (us : List V) (ms : List Nat), vs = [.ref a] ∧ SqL K H a us ∧ Paired (SumV K H) us ms ∧ (∀ m ∈ ms, m < 2 ^ 63) ∧ ms.length ≤ 1000 ∧
  ∀ H' v, Same H H' → SumV K H' v (xall ms) → Q v H'
def sp_law_is_sum_right (K : PySem.W.Frag) : Sp := fun vs H Q _ => ∃ (a : Addr) (us : List V) (ms : List Nat) (v : V) (m : Nat), vs = [.ref a, v] ∧ Sums K H a us ms ∧ SumV K H v m ∧ m < 2 ^ 63 ∧
  ∀ H', Same H H' → Q (.bl true) H'
def sp_law_are_told (K : PySem.W.Frag) : Sp := fun vs H Q _ => ∃ (b c a : Addr) (us : List V) (ms : List Nat) (n : Nat), vs = [.ref b, .int (n : Int), .ref a] ∧ BagAt K H b c ∧ a ≠ b ∧ H a = some (.lst us) ∧ Sums K H a us ms ∧ (∀ m ∈ ms, m < 2 ^ n) ∧ n ≤ 62 ∧
  ∀ H', But b H H' → BagAt K H' b c → Q (.bl true) H'
theorem bits_below {m n u : Nat} (h : m < 2 ^ n) (hu : u ∈ bts m) : u < n := by
  refine Nat.lt_of_not_le fun z => ?_
  have b := (mem_bts.mp hu).2
  rw [Nat.testBit_lt_two_pow (Nat.lt_of_lt_of_le h (Nat.pow_le_pow_right (by decide) z))] at b
  cases b
theorem dp_nil {K : PySem.W.Frag} {H : Hp} {a : Addr} (h : SqL K H a []) : Dp K H (.ref a) (.list []) := .lst h .nil
theorem dp_list {K : PySem.W.Frag} {H : Hp} {a : Addr} {ns : List Int} (h : SqL K H a (ns.map V.int)) : Dp K H (.ref a) (.list (ns.map .int)) := .lst h (dp_ints ns)
theorem eqv_ints : ∀ ns : List Int, PyData.eqvAll (ns.map .int) (ns.map .int) = true
  | [] => rfl
  | n :: ns => by
    show (PyData.eqv (.int n) (.int n) && PyData.eqvAll (ns.map .int) (ns.map .int)) = true
    rw [eqv_ints ns, Bool.and_true]
    exact beq_self_eq_true n
theorem lay_ints : ∀ ns : List Int, PyData.canLayAll0 (ns.map .int) = true
  | [] => rfl
  | n :: ns => by
    show (PyData.canLay0 (.int n) && PyData.canLayAll0 (ns.map .int)) = true
    rw [lay_ints ns]
    rfl
theorem shaped_ints (ns : List Int) : SeqAt.shaped (.list (ns.map .int)) = true := by
  unfold SeqAt.shaped
  rw [Bool.and_eq_true]
  refine ⟨by simpa [PyData.canLay0] using lay_ints ns, decide_eq_true ?_⟩
  show PyData.depthAll (ns.map .int) + 1 ≤ 64
  rw [depth_ints]
  decide
abbrev NumV : V → Nat → Prop := fun v n => v = .int (n : Int)
structure Cnt (bs : List (Nat × Nat)) (m : Nat) : Prop where
  nd : (bs.map (·.1)).Nodup
  lt : ∀ e ∈ bs, e.1 < 63
  bit : ∀ u, u < 63 → m.testBit u = decide (((lookB bs u).getD 0) % 2 = 1)
theorem cnt_nil : Cnt [] 0 := ⟨List.nodup_nil, (fun e he => by cases he), fun u _ => by simp [lookB]⟩
theorem lookB_mem {β : Type} {bs : List (Nat × β)} {h : Nat} {b : β} (e : lookB bs h = some b) : (h, b) ∈ bs := by
  unfold lookB at e
  obtain ⟨x, hx, ex⟩ := Option.map_eq_some_iff.mp e
  have h1 := List.find?_some hx
  have h1 : x.1 = h := of_decide_eq_true h1
  have h2 := List.mem_of_find?_eq_some hx
  obtain ⟨y, z⟩ := x
  simp only at ex h1
  subst ex; subst h1
  exact h2
theorem lookB_none {β : Type} {bs : List (Nat × β)} {h : Nat} : lookB bs h = none ↔ h ∉ bs.map (·.1) := by
  unfold lookB
  rw [Option.map_eq_none_iff, List.find?_eq_none]
  constructor
  · intro k m
    obtain ⟨b, hb, e⟩ := List.mem_map.mp m
    exact k b hb (decide_eq_true e)
  · intro k b hb e
    exact k (List.mem_map.mpr ⟨b, hb, of_decide_eq_true e⟩)
theorem lookB_snoc {β : Type} {bs : List (Nat × β)} {h u : Nat} {b : β} (no : lookB bs h = none) : lookB (bs ++ [(h, b)]) u = if u = h then some b else lookB bs u := by
  unfold lookB at no ⊢
  rw [List.find?_append]
  by_cases e : u = h
  · subst e
    rw [Option.map_eq_none_iff] at no
    rw [no, if_pos rfl]
    simp
  · rw [if_neg e]
    have : ([(h, b)] : List (Nat × β)).find? (fun b => decide (b.1 = u)) = none := by
      simp [Ne.symm e]
    rw [this, Option.or_none]
theorem lookB_set {β : Type} {h u : Nat} {b : β} : ∀ {bs : List (Nat × β)}, h ∈ bs.map (·.1) → lookB (bs.map fun e => if e.1 = h then (h, b) else e) u = if u = h then some b else lookB bs u
  | [], m => by cases m
  | e :: bs, m => by
    by_cases q : e.1 = h
    · by_cases z : u = h
      · subst z
        simp [lookB, List.find?_cons, q]
      · have ih : lookB (bs.map fun e => if e.1 = h then (h, b) else e) u = lookB bs u := by
          by_cases m2 : h ∈ bs.map (·.1)
          · rw [lookB_set m2, if_neg z]
          · congr 1
            conv => rhs; rw [← List.map_id bs]
            refine List.map_congr_left fun x hx => ?_
            rw [if_neg fun w => m2 (List.mem_map.mpr ⟨x, hx, w⟩)]
            rfl
        unfold lookB at ih ⊢
        rw [List.map_cons, if_pos q, List.find?_cons, List.find?_cons]
        have d1 : decide (h = u) = false := decide_eq_false (Ne.symm z)
        have d2 : decide (e.1 = u) = false := decide_eq_false (by rw [q]; exact Ne.symm z)
        simp only [d1, d2, if_neg z]
        exact ih
    · have m2 : h ∈ bs.map (·.1) := by
        rcases List.mem_cons.mp m with w | w
        · exact absurd w.symm q
        · exact w
      have ih := lookB_set (u := u) (b := b) m2
      unfold lookB at ih ⊢
      rw [List.map_cons, if_neg q, List.find?_cons, List.find?_cons]
      by_cases z : e.1 = u
      · have : u ≠ h := fun w => q (z.trans w)
        simp [z, this]
      · have d2 : decide (e.1 = u) = false := decide_eq_false z
        simp only [d2]
        exact ih
theorem cnt_inc {bs : List (Nat × Nat)} {m u : Nat} (C : Cnt bs m) (hu : u < 63) {bs' : List (Nat × Nat)} (hk : bs'.map (·.1) = bs.map (·.1) ∨ (bs'.map (·.1) = bs.map (·.1) ++ [u] ∧ u ∉ bs.map (·.1)))
    (hl : ∀ v, lookB bs' v = if v = u then some ((lookB bs u).getD 0 + 1) else lookB bs v) : Cnt bs' (m ^^^ 2 ^ u) := by
  refine ⟨?_, ?_, fun v hv => ?_⟩
  · rcases hk with hk | ⟨hk, hn⟩
    · rw [hk]; exact C.nd
    · rw [hk]
      refine List.nodup_append.mpr ⟨C.nd, by simp, fun a ha b hb => ?_⟩
      have hb : b = u := by simpa using hb
      subst hb
      exact fun z => hn (z ▸ ha)
  · intro e he
    have he2 : e.1 ∈ bs'.map (·.1) := List.mem_map.mpr ⟨e, he, rfl⟩
    have old : ∀ x, x ∈ bs.map (·.1) → x < 63 := fun x hx => by
      obtain ⟨b, hb, z⟩ := List.mem_map.mp hx
      exact z ▸ C.lt b hb
    rcases hk with hk | ⟨hk, _⟩
    · rw [hk] at he2
      exact old _ he2
    · rw [hk] at he2
      rcases List.mem_append.mp he2 with h | h
      · exact old _ h
      · have h : e.1 = u := by simpa using h
        rw [h]; exact hu
  · rw [bit_toggle, hl v, C.bit v hv]
    by_cases e : v = u
    · subst e
      rw [if_pos rfl, if_pos rfl]
      show (!decide (((lookB bs v).getD 0) % 2 = 1)) = decide (((lookB bs v).getD 0 + 1) % 2 = 1)
      by_cases z : ((lookB bs v).getD 0) % 2 = 1
      · rw [decide_eq_true z, decide_eq_false (by omega)]; rfl
      · rw [decide_eq_false z, decide_eq_true (by omega)]; rfl
    · rw [if_neg e, if_neg e]
theorem cnt_len {bs : List (Nat × Nat)} {m : Nat} (C : Cnt bs m) : bs.length ≤ 63 := by
  have := dictM_len (kvs := (bs.map (·.1)).map fun (u : Nat) => ((Sum.inl (u : Int) : Key), V.bl true)) (m := msk (bs.map (·.1))) ⟨bs.map (·.1), rfl, C.nd, fun u => by
    rw [msk_bit C.nd, decide_eq_true_eq]
    constructor
    · intro h
      obtain ⟨e, he, z⟩ := List.mem_map.mp h
      exact ⟨z ▸ C.lt e he, h⟩
    · exact fun h => h.2⟩
  simpa using this
theorem lc_keys {d : Addr} {od : Obj} {kvs : List (Key × V)} {g : TG} {tt : TT} {te : TE} {vs : List Nat} {D : Addr} {σ : L2.St} {H : Hp} {Qd : Hp → Prop} (Pv : Nat → Hp → Prop) (h0 : Pv 0 (upd H D (.lst [])))
    (hf : ∀ i H, Pv i H → H d = some (.frz od (.dK kvs)))
    (hs : ∀ i k v H, kvs[i]? = some (k, v) → Pv i H → g (kV k) (wipe σ vs) H fun σ2 H2 => wipe σ2 vs = wipe σ vs ∧ tt σ2 H2 fun b H3 =>
      if b = true then te σ2 H3 fun y H4 => ∃ acc, H4 D = some (.lst acc) ∧ acc.length < sizeLine ∧ Pv (i + 1) (upd H4 D (.lst (acc ++ [y]))) else Pv (i + 1) H3)
    (hd : ∀ H, Pv kvs.length H → Qd H) :
    ∃ W : Nat → Nat → Hp → Prop, (∃ m, W 0 m (upd H D (.lst []))) ∧ ∀ i m H, W i m H →
      ((Itk d od kvs).stop i H ∧ Qd H) ∨ ((Itk d od kvs).go i H ∧ ∃ Nx : Hp → Prop, (∀ H', Nx H' → ∃ m', m' < m ∧ W (i + 1) m' H') ∧ ∀ x H', (Itk d od kvs).yld i H x H' → g x (wipe σ vs) H' fun σ2 H2 => wipe σ2 vs = wipe σ vs ∧ tt σ2 H2 fun b H3 =>
        if b = true then te σ2 H3 fun y H4 => ∃ acc, H4 D = some (.lst acc) ∧ acc.length < sizeLine ∧ Nx (upd H4 D (.lst (acc ++ [y]))) else Nx H3) := by
  refine ⟨fun i m H => i + m = kvs.length ∧ Pv i H, ⟨kvs.length, Nat.zero_add _, h0⟩, ?_⟩
  intro i m H hw
  obtain ⟨hm, p⟩ := hw
  by_cases lt : i < kvs.length
  · refine .inr ⟨⟨hf i H p, lt⟩, Pv (i + 1), fun H' p' => ⟨m - 1, by omega, by omega, p'⟩, ?_⟩
    rintro x H' ⟨rfl, k, v, hk, rfl⟩
    exact hs i k v H' hk p
  · have e : i = kvs.length := by omega
    subst e
    exact .inl ⟨⟨hf _ H p, Nat.le_refl _⟩, hd H p⟩
def sumsD (ms : List Nat) : PyData := .list (ms.map sumD)
def optD : Option Nat → PyData
  | none => .none
  | some u => sumD u
theorem dp_sumsAll {K : PySem.W.Frag} {H : Hp} : ∀ {us : List V} {ms : List Nat}, Paired (SumV K H) us ms → DpAll K H us (ms.map sumD)
  | _, _, .nil => .nil
  | _, _, .cons r t => .cons (dp_sum r) (dp_sumsAll t)
theorem dp_sums {K : PySem.W.Frag} {H : Hp} {a : Addr} {us : List V} {ms : List Nat} (h : SqL K H a us) (p : Paired (SumV K H) us ms) : Dp K H (.ref a) (sumsD ms) := .lst h (dp_sumsAll p)
theorem dp_opt {K : PySem.W.Frag} {H : Hp} {v : V} {o : Option Nat} (h : OptSum K H v o) : Dp K H v (optD o) := by
  cases o with
  | none =>
    have h : v = .non := h
    subst h
    exact .non
  | some u => exact dp_sum h
theorem nice_ints {ns : List Int} (h : ∀ n ∈ ns, n.natAbs < 10 ^ 12) : niceAll (ns.map .int) = true := by
  rw [niceAll_iff]
  intro x hx
  obtain ⟨n, hn, rfl⟩ := List.mem_map.mp hx
  exact decide_eq_true (h n hn)
theorem nice_sumD (m : Nat) : nice (sumD m) = true := by
  refine nice_ints fun n hn => ?_
  obtain ⟨u, hu, rfl⟩ := List.mem_map.mp hn
  have := (mem_bts.mp hu).1
  show u < 10 ^ 12
  exact Nat.lt_trans this (by decide)
theorem nice_sumsD (ms : List Nat) : nice (sumsD ms) = true := by
  show niceAll (ms.map sumD) = true
  rw [niceAll_iff]
  intro x hx
  obtain ⟨m, _, rfl⟩ := List.mem_map.mp hx
  exact nice_sumD m
theorem nice_optD (o : Option Nat) : nice (optD o) = true := by
  cases o with
  | none => rfl
  | some u => exact nice_sumD u
theorem depth_sumsAll : ∀ ms : List Nat, PyData.depthAll (ms.map sumD) ≤ 1
  | [] => Nat.zero_le _
  | m :: ms => by
    show max (sumD m).depth (PyData.depthAll (ms.map sumD)) ≤ 1
    rw [depth_sumD]
    exact Nat.max_le.mpr ⟨Nat.le_refl _, depth_sumsAll ms⟩
theorem depth_sumsD (ms : List Nat) : (sumsD ms).depth ≤ 2 := by
  show PyData.depthAll (ms.map sumD) + 1 ≤ 2
  have := depth_sumsAll ms
  omega
theorem depth_optD (o : Option Nat) : (optD o).depth ≤ 1 := by
  cases o with
  | none => exact Nat.zero_le _
  | some u =>
    show (sumD u).depth ≤ 1
    rw [depth_sumD]
    exact Nat.le_refl _
theorem weight_int {i : Int} {k : Nat} (h : i.natAbs < 2 ^ k) : PyData.weight (.int i) ≤ k := by
  show (if i == 0 then 0 else i.natAbs.log2 + 1) ≤ k
  by_cases z : i = 0
  · subst z
    exact Nat.zero_le _
  · have e : (i == 0) = false := by
      rw [beq_eq_false_iff_ne]
      exact z
    rw [e]
    show i.natAbs.log2 + 1 ≤ k
    have : i.natAbs ≠ 0 := by omega
    exact (Nat.log2_lt this).mpr h
theorem weight_ints {k : Nat} : ∀ {ns : List Int}, (∀ n ∈ ns, n.natAbs < 2 ^ k) → PyData.weightAll (ns.map .int) ≤ (k + 1) * ns.length
  | [], _ => Nat.zero_le _
  | n :: ns, h => by
    have ih := weight_ints fun x hx => h x (List.mem_cons_of_mem _ hx)
    have w := weight_int (h n List.mem_cons_self)
    show PyData.weight (.int n) + 1 + PyData.weightAll (ns.map .int) ≤ _
    rw [List.length_cons, Nat.mul_add, Nat.mul_one]
    omega
theorem weight_sumD (m : Nat) : (sumD m).weight ≤ 441 := by
  have h := weight_ints (k := 6) (ns := (bts m).map Int.ofNat) fun n hn => by
    obtain ⟨u, hu, rfl⟩ := List.mem_map.mp hn
    have := (mem_bts.mp hu).1
    show u < 2 ^ 6
    omega
  have l := bts_len m
  rw [List.length_map] at h
  show PyData.weightAll _ ≤ 441
  omega
theorem weight_sumsAll : ∀ ms : List Nat, PyData.weightAll (ms.map sumD) ≤ 442 * ms.length
  | [] => Nat.zero_le _
  | m :: ms => by
    have ih := weight_sumsAll ms
    have w := weight_sumD m
    show (sumD m).weight + 1 + PyData.weightAll (ms.map sumD) ≤ _
    rw [List.length_cons]
    omega
theorem weight_sumsD {ms : List Nat} (h : ms.length ≤ 1000) : (sumsD ms).weight ≤ 2 ^ 20 := by
  have := weight_sumsAll ms
  show PyData.weightAll (ms.map sumD) ≤ _
  omega
theorem weight_optD (o : Option Nat) : (optD o).weight ≤ 2 ^ 20 := by
  cases o with
  | none => exact Nat.zero_le _
  | some u => exact Nat.le_trans (weight_sumD u) (by decide)
theorem shaped_sumD (m : Nat) : SeqAt.shaped (sumD m) = true := nice_shaped (nice_sumD m) (by rw [depth_sumD]; decide)
theorem eqv_sumD (m : Nat) : PyData.eqv (sumD m) (sumD m) = true := eqv_ints _
theorem sumD_zero : sumD 0 = .tuple [] := by
  unfold sumD
  rw [bts_zero]
  rfl
theorem dp_zero {K : PySem.W.Frag} {H : Hp} {a : Addr} (h : SqT K H a []) : Dp K H (.ref a) (sumD 0) := by
  rw [sumD_zero]
  exact .tup h .nil
theorem eqv_ints_iff : ∀ {xs ys : List Int}, PyData.eqvAll (xs.map .int) (ys.map .int) = true → xs = ys
  | [], [], _ => rfl
  | [], y :: ys, h => by cases h
  | x :: xs, [], h => by cases h
  | x :: xs, y :: ys, h => by
    have h : (PyData.eqv (.int x) (.int y) && PyData.eqvAll (xs.map .int) (ys.map .int)) = true := h
    rw [Bool.and_eq_true] at h
    have h1 : x = y := beq_iff_eq.mp h.1
    rw [h1, eqv_ints_iff h.2]
theorem eqv_sumD_iff {a b : Nat} (ha : a < 2 ^ 63) (hb : b < 2 ^ 63) (h : PyData.eqv (sumD a) (sumD b) = true) : a = b := by
  have h := eqv_ints_iff (show PyData.eqvAll _ _ = true from h)
  refine bts_inj ha hb ?_
  exact (List.map_inj_right (fun a b h => Int.ofNat.inj h)).mp h
theorem xall_pick (ms : List Nat) (u : Nat) : xall ((bts u).map fun k => ms.getD k 0) = pick ms u := by
  have go : ∀ n, xall (((List.range n).filter fun k => u.testBit k).map fun k => ms.getD k 0) = xsum (fun k => if u.testBit k then ms.getD k 0 else 0) n := by
    intro n
    induction n with
    | zero => rfl
    | succ n ih =>
      rw [List.range_succ, List.filter_append, List.map_append]
      show xall _ = xsum _ n ^^^ (if u.testBit n = true then ms.getD n 0 else 0)
      rw [← ih]
      cases q : u.testBit n with
      | true => simp [q, xall]
      | false => simp [q, xall]
  exact go 63
theorem pick_lt {ms : List Nat} (h : ∀ m ∈ ms, m < 2 ^ 63) (u : Nat) : pick ms u < 2 ^ 63 := Spn.lt h (pick_span ms u)
theorem wsum_range (m : Nat) (bs : List Nat) : wsum m bs = ((List.range 63).map fun u => if m.testBit u = true then bs.getD u 0 else 0).sum := by
  unfold wsum bts
  generalize List.range 63 = l
  induction l with
  | nil => rfl
  | cons u l ih =>
    rw [List.filter_cons, List.map_cons, List.sum_cons, ← ih]
    cases q : m.testBit u with
    | true => simp
    | false => simp
theorem wsum_xor (a b : Nat) (bs : List Nat) : wsum (a ^^^ b) bs % 2 = (wsum a bs + wsum b bs) % 2 := by
  rw [wsum_range, wsum_range, wsum_range]
  generalize List.range 63 = l
  induction l with
  | nil => rfl
  | cons u l ih =>
    simp only [List.map_cons, List.sum_cons]
    generalize (List.map (fun u => if (a ^^^ b).testBit u = true then bs.getD u 0 else 0) l).sum = x at ih ⊢
    generalize (List.map (fun u => if a.testBit u = true then bs.getD u 0 else 0) l).sum = y at ih ⊢
    generalize (List.map (fun u => if b.testBit u = true then bs.getD u 0 else 0) l).sum = z at ih ⊢
    generalize bs.getD u 0 = w
    rw [Nat.testBit_xor]
    cases a.testBit u <;> cases b.testBit u <;> simp <;> omega
theorem wsum_zero (bs : List Nat) : wsum 0 bs = 0 := by
  unfold wsum
  rw [bts_zero]
  rfl
theorem wsum_all (bs : List Nat) (ms : List Nat) : ((ms.map fun m => wsum m bs % 2).sum) % 2 = wsum (xall ms) bs % 2 := by
  suffices h : ∀ n, ∀ ms : List Nat, ms.length = n → ((ms.map fun m => wsum m bs % 2).sum) % 2 = wsum (xall ms) bs % 2 from h _ ms rfl
  intro n
  induction n with
  | zero =>
    intro ms hl
    have : ms = [] := List.length_eq_zero_iff.mp hl
    subst this
    show 0 % 2 = wsum 0 bs % 2
    rw [wsum_zero]
  | succ n ih =>
    intro ms hl
    have hne : ms ≠ [] := by intro z; subst z; cases hl
    obtain ⟨pre, m, rfl⟩ : ∃ pre m, ms = pre ++ [m] := ⟨ms.dropLast, ms.getLast hne, (List.dropLast_concat_getLast hne).symm⟩
    have h := ih pre (by simpa using hl)
    rw [xall_snoc, wsum_xor, List.map_append, List.sum_append]
    simp only [List.map_cons, List.map_nil, List.sum_cons, List.sum_nil]
    omega
theorem cut_take (xs : List V) (j : Nat) : cutV xs none (some (j : Int)) = xs.take j := by
  unfold cutV
  have e1 : HT.sIx xs.length 0 none = 0 := HT.sIx_none _ _
  have e2 : HT.sIx xs.length xs.length (some (j : Int)) = min j xs.length := HT.sIx_nat _ _ _
  rw [e1, e2, Nat.sub_zero, List.drop_zero]
  by_cases h : j ≤ xs.length
  · rw [Nat.min_eq_left h]
  · rw [Nat.min_eq_right (by omega), List.take_length, List.take_of_length_le (by omega)]
theorem BagAt.mut {K : PySem.W.Frag} {H0 H : Hp} {b c D : Addr} {o : HO} (B0 : BagAt K H0 b c) (n : H0 D = none) (B : BagAt K H b c) : BagAt K (upd H D o) b c := by
  obtain ⟨x0, y0, z0, cs0, h01, h02, h03, _, _, _, _, p1, p2⟩ := B0
  obtain ⟨x, y, z, cs, h1, h2, h3, q1, q2, q3, q4, q5, q6⟩ := B
  have nb : b ≠ D := ne_of_none h01 n
  have hb : (upd H D o) b = some (.lst [.int x, .int y, .int z, .ref c]) := by rw [upd_ne nb]; exact h1
  rcases h02 with h02 | h02
  · have nc : c ≠ D := by
      rcases h02 with h | ⟨u, h⟩
      · exact ne_of_none h n
      · exact ne_of_none h n
    refine ⟨x, y, z, cs, hb, ?_, h3, q1, q2, q3, q4, q5, q6⟩
    rcases h2 with (h | ⟨u, h⟩) | h
    · exact .inl (.inl (by rw [upd_ne nc]; exact h))
    · exact .inl (.inr ⟨u, by rw [upd_ne nc]; exact h⟩)
    · exact .inr h
  · exact ⟨x, y, z, cs0, hb, .inr h02, h3, q1, q2, q3, q4, p1, p2⟩
theorem but_mut {b : Addr} {H0 H : Hp} {D : Addr} {o : HO} (s : But b H0 H) (n : H0 D = none) : But b H0 (upd H D o) := fun a x na e => by
  rw [upd_ne (ne_of_none e n)]
  exact s a x na e
theorem indep_eq (ms : List Nat) : indep ms = (List.range ms.length).filter fun k => decide (k ∉ (elim ms).2.1.map (·.1)) := rfl
theorem lot_facts {ms : List Nat} (hm : ∀ x ∈ ms, x < 2 ^ 63) (hl : ms.length ≤ 62) : (lotOf ms = none → lrank ms = ms.length) ∧ (∀ u, lotOf ms = some u → u ≠ 0 ∧ u < 2 ^ ms.length ∧ pick ms u = 0) := by
  have O := elim_ok ms hm hl
  unfold lotOf
  cases e : (elim ms).2.1 with
  | nil => exact ⟨fun _ => indep_all hm hl e, fun u h => by cases h⟩
  | cons l ls =>
    refine ⟨(fun h => by cases h), fun u h => ?_⟩
    have h : l.2 = u := Option.some.inj h
    subst h
    obtain ⟨_, h2, h3, h4⟩ := O.lots l (by rw [e]; exact List.mem_cons_self)
    exact ⟨h2, h3, h4⟩
theorem iv_take {l : List Nat} (i : Nat) : (iv l).take i = iv (l.take i) := by
  unfold iv
  rw [List.map_take]
theorem dp_iv {K : PySem.W.Frag} {H : Hp} {a : Addr} {l : List Nat} (h : SqL K H a (iv l)) : Dp K H (.ref a) (.list ((l.map Int.ofNat).map .int)) := by
  rw [iv_ints] at h
  exact dp_list h
theorem nice_iv {l : List Nat} (h : ∀ n ∈ l, n < 10 ^ 12) : nice (.list ((l.map Int.ofNat).map .int)) = true := nice_ints fun n hn => by
  obtain ⟨u, hu, rfl⟩ := List.mem_map.mp hn
  exact h u hu
theorem depth_iv (l : List Nat) : (PyData.list ((l.map Int.ofNat).map .int)).depth ≤ 40 := by
  show PyData.depthAll _ + 1 ≤ 40
  rw [depth_ints]
  decide
theorem weight_iv {l : List Nat} (h : ∀ n ∈ l, n < 2 ^ 40) (hl : l.length ≤ 1000) : (PyData.list ((l.map Int.ofNat).map .int)).weight ≤ 2 ^ 20 := by
  have w := weight_ints (k := 40) (ns := l.map Int.ofNat) fun n hn => by
    obtain ⟨u, hu, rfl⟩ := List.mem_map.mp hn
    exact h u hu
  rw [List.length_map] at w
  show PyData.weightAll _ ≤ _
  omega
theorem paired_take {α β : Type} {R : α → β → Prop} : ∀ {xs : List α} {ys : List β} (n : Nat), PySem.Paired R xs ys → PySem.Paired R (xs.take n) (ys.take n)
  | _, _, 0, _ => .nil
  | _, _, n + 1, .nil => .nil
  | _, _, n + 1, .cons h t => .cons h (paired_take n t)
theorem pairD_facts (m r : Nat) (hr : r ≤ 1000) : nice (.list [sumD m, .int (r : Int)]) = true ∧ (PyData.list [sumD m, .int (r : Int)]).depth ≤ 40 ∧ (PyData.list [sumD m, .int (r : Int)]).weight ≤ 2 ^ 20 := by
  refine ⟨?_, ?_, ?_⟩
  · refine niceAll_iff.mpr fun x hx => ?_
    rcases List.mem_cons.mp hx with rfl | hx
    · exact nice_sumD m
    · rcases List.mem_cons.mp hx with rfl | hx
      · refine decide_eq_true ?_
        show r < 10 ^ 12
        exact Nat.lt_of_le_of_lt hr (by decide)
      · cases hx
  · show max (sumD m).depth (max 0 0) + 1 ≤ 40
    rw [depth_sumD]
    decide
  · have w := weight_sumD m
    have w2 : PyData.weight (.int (r : Int)) ≤ 10 := weight_int (show r < 2 ^ 10 by omega)
    show (sumD m).weight + 1 + (PyData.weight (.int (r : Int)) + 1 + 0) ≤ 2 ^ 20
    omega
theorem ivD_facts {l : List Nat} (h : ∀ n ∈ l, n < 10 ^ 9) (hl : l.length ≤ 1000) : nice (.list ((l.map Int.ofNat).map .int)) = true ∧ (PyData.list ((l.map Int.ofNat).map .int)).depth ≤ 40 ∧ (PyData.list ((l.map Int.ofNat).map .int)).weight ≤ 2 ^ 20 :=
  ⟨nice_iv fun n hn => Nat.lt_trans (h n hn) (by decide), depth_iv l, weight_iv (fun n hn => Nat.lt_trans (h n hn) (by decide)) hl⟩
def tVia (t : TE) : TE := fun σ H Q => ∃ Mid : V → Hp → Prop, t σ H Mid ∧ ∀ v H', Mid v H' → Q v H'
theorem pe_via {X : Cx} {e : Expr} {t : TE} (he : PE X e t) : PE X e (tVia t) :=
  ⟨fun pins s σ H Q I ⟨Mid, h, k⟩ => thn (he.run pins s σ H Mid I h) fun v s1 ⟨x, H1, I1, r1, q1⟩ => ⟨x, H1, I1, r1, k _ _ q1⟩⟩
def sp_law (K : PySem.W.Frag) : Sp := fun vs H Q _ => ∃ (a : Addr) (ns : List Int), vs = [.ref a] ∧ SqL K H a (ns.map V.int) ∧ ns.length ≤ 63 ∧ ∀ H', Q (.bl true) H'
structure SumsAt (K : PySem.W.Frag) (H : Hp) (b c a : Addr) (n : Nat) (us : List V) (ms : List Nat) : Prop where
  bag : BagAt K H b c
  ne : a ≠ b
  at_ : H a = some (.lst us)
  sums : Paired (SumV K H) us ms
  lt : ∀ m ∈ ms, m < 2 ^ n
theorem SumsAt.but {K : PySem.W.Frag} {H H' : Hp} {b c a : Addr} {n : Nat} {us : List V} {ms : List Nat} (S : SumsAt K H b c a n us ms) (s : But b H H') (B : BagAt K H' b c) : SumsAt K H' b c a n us ms :=
  ⟨B, S.ne, s _ _ S.ne S.at_, sums_bag S.bag s S.sums, S.lt⟩
theorem SumsAt.same {K : PySem.W.Frag} {H H' : Hp} {b c a : Addr} {n : Nat} {us : List V} {ms : List Nat} (S : SumsAt K H b c a n us ms) (s : Same H H') : SumsAt K H' b c a n us ms := S.but (But.same s) (S.bag.same s)
theorem SumsAt.mut {K : PySem.W.Frag} {H0 H : Hp} {b c a D : Addr} {n : Nat} {us ys : List V} {ms : List Nat} {o : HO} (B0 : BagAt K H0 b c) (nD : H0 D = none) (na : a ≠ D) (eD : H D = some (.lst ys)) (S : SumsAt K H b c a n us ms) : SumsAt K (upd H D o) b c a n us ms :=
  ⟨BagAt.mut B0 nD S.bag, S.ne, by rw [upd_ne na]; exact S.at_, sums_but eD But.at_ S.sums, S.lt⟩
theorem SumsAt.push {K : PySem.W.Frag} {H0 H : Hp} {b c a : Addr} {n m : Nat} {us : List V} {ms : List Nat} {v : V} (B0 : BagAt K H0 b c) (na : H0 a = none) (S : SumsAt K H b c a n us ms) (hv : SumV K H v m) (hm : m < 2 ^ n) : SumsAt K (upd H a (.lst (us ++ [v]))) b c a n (us ++ [v]) (ms ++ [m]) :=
  ⟨BagAt.mut B0 na S.bag, S.ne, upd_same, PySem.Paired.snoc (sums_but S.at_ But.at_ S.sums) (hv.but S.at_ But.at_), fun x hx => by
    rcases List.mem_append.mp hx with hx | hx
    · exact S.lt x hx
    · have hx : x = m := by simpa using hx
      rw [hx]; exact hm⟩
theorem SumsAt.few {K : PySem.W.Frag} {H : Hp} {b c a : Addr} {n : Nat} {us : List V} {ms : List Nat} (S : SumsAt K H b c a n us ms) (hn : n ≤ 62) (hl : us.length ≤ 62) : Sums K H a us ms :=
  ⟨.inl (.inl S.at_), S.sums, fun m hm => Nat.lt_of_lt_of_le (S.lt m hm) (Nat.pow_le_pow_right (by decide) (by omega)), by rw [← Paired.len S.sums]; exact hl⟩
theorem xall_below {n : Nat} {ms : List Nat} (hn : ∀ m ∈ ms, m < 2 ^ n) : xall ms < 2 ^ n := by
  have go : ∀ (l : List Nat) (x : Nat), x < 2 ^ n → (∀ m ∈ l, m < 2 ^ n) → l.foldl (· ^^^ ·) x < 2 ^ n := by
    intro l
    induction l with
    | nil => intro x hx _; exact hx
    | cons m l ih =>
      intro x hx hl
      exact ih _ (Nat.xor_lt_two_pow hx (hl m List.mem_cons_self)) fun y hy => hl y (List.mem_cons_of_mem _ hy)
  exact go ms 0 (Nat.two_pow_pos n) hn
end Es
namespace Es
structure FlatOk (hs : List (Nat × Nat × Nat)) : Prop where
  red : RedOk hs
  least : ∀ e ∈ hs, low e.2.1 = some e.1
  bit : ∀ e ∈ hs, e.2.2 < 2
theorem flat_nil : FlatOk [] :=
  ⟨⟨List.nodup_nil, (fun e h => by cases h), (fun e h => by cases h)⟩, (fun e h => by cases h), (fun e h => by cases h)⟩
theorem bit_xor {a b : Nat} (ha : a < 2) (hb : b < 2) : a ^^^ b < 2 := Nat.xor_lt_two_pow (n := 1) ha hb
theorem look_of {hs : List (Nat × Nat × Nat)} (nd : (hs.map (·.1)).Nodup) {e : Nat × Nat × Nat} (h : e ∈ hs) : look hs e.1 = some e.2 := by
  cases q : look hs e.1 with
  | none => exact absurd (List.mem_map.mpr ⟨e, h, rfl⟩) (look_none.mp q)
  | some p =>
    have h1 := look_mem q
    obtain ⟨i1, l1, e1⟩ := List.mem_iff_getElem.mp h1
    obtain ⟨i2, l2, e2⟩ := List.mem_iff_getElem.mp h
    have : i1 = i2 := (List.getElem_inj nd (h₀ := by rw [List.length_map]; exact l1) (h₁ := by rw [List.length_map]; exact l2)).mp (by rw [List.getElem_map, List.getElem_map, e1, e2])
    subst this
    rw [e1] at e2
    rw [← e2]
def wh1 (m : Nat) (r : Nat × Nat) (e : Nat × Nat × Nat) : Nat × Nat := if m.testBit e.1 = true then (r.1 ^^^ e.2.1, r.2 ^^^ e.2.2) else r
def wh (hs : List (Nat × Nat × Nat)) (l : Nat × Nat) : Nat × Nat := hs.foldl (wh1 l.1) l
theorem wh1_comm (m : Nat) (z : Nat × Nat) (x y : Nat × Nat × Nat) : wh1 m (wh1 m z x) y = wh1 m (wh1 m z y) x := by
  have x3 : ∀ a b c : Nat, a ^^^ b ^^^ c = a ^^^ c ^^^ b := fun a b c => by rw [Nat.xor_assoc, Nat.xor_comm b c, ← Nat.xor_assoc]
  unfold wh1
  by_cases h1 : m.testBit x.1 = true
  · by_cases h2 : m.testBit y.1 = true
    · rw [if_pos h1, if_pos h1, if_pos h2, if_pos h2]
      show ((_, _) : Nat × Nat) = (_, _)
      rw [x3 z.1, x3 z.2]
    · rw [if_pos h1, if_neg h2, if_neg h2, if_pos h1]
  · by_cases h2 : m.testBit y.1 = true
    · rw [if_neg h1, if_pos h2, if_neg h1]
    · rw [if_neg h1, if_neg h2, if_neg h1]
theorem wh_perm {hs gs : List (Nat × Nat × Nat)} (p : hs.Perm gs) (l : Nat × Nat) : wh hs l = wh gs l :=
  p.foldl_eq' (fun x _ y _ z => wh1_comm l.1 z x y) l
def byHead (hs : List (Nat × Nat × Nat)) : List (Nat × Nat × Nat) := (srt (hs.map (·.1))).map fun h => (h, (look hs h).getD (0, 0))
theorem nodup_of_map {hs : List (Nat × Nat × Nat)} (nd : (hs.map (·.1)).Nodup) : hs.Nodup := by
  induction hs with
  | nil => exact List.nodup_nil
  | cons e hs ih =>
    rw [List.map_cons, List.nodup_cons] at nd
    exact List.nodup_cons.mpr ⟨fun z => nd.1 (List.mem_map.mpr ⟨e, z, rfl⟩), ih nd.2⟩
theorem byHead_keys {hs : List (Nat × Nat × Nat)} : (byHead hs).map (·.1) = srt (hs.map (·.1)) := by
  unfold byHead
  rw [List.map_map]
  exact List.map_id _
theorem byHead_perm {hs : List (Nat × Nat × Nat)} (R : RedOk hs) : (byHead hs).Perm hs := by
  refine (List.perm_ext_iff_of_nodup ?_ (nodup_of_map R.nd)).mpr fun e => ?_
  · refine nodup_of_map ?_
    rw [byHead_keys]
    exact (srt_lt _).imp fun h => Nat.ne_of_lt h
  · unfold byHead
    rw [List.mem_map]
    constructor
    · rintro ⟨h, hh, rfl⟩
      obtain ⟨_, h2⟩ := mem_srt.mp hh
      obtain ⟨e, he, rfl⟩ := List.mem_map.mp h2
      rw [look_of R.nd he]
      exact he
    · intro he
      refine ⟨e.1, mem_srt.mpr ⟨(R.own e he).1, List.mem_map.mpr ⟨e, he, rfl⟩⟩, ?_⟩
      rw [look_of R.nd he]
      rfl
theorem wh_fold {hs : List (Nat × Nat × Nat)} (R : RedOk hs) (m : Nat) : ∀ (S : List Nat) (r : Nat × Nat), S.Nodup → (∀ h ∈ S, h ∈ hs.map (·.1)) → (∀ h ∈ S, r.1.testBit h = m.testBit h) →
    S.foldl (lred1 hs) r = (S.map fun h => (h, (look hs h).getD (0, 0))).foldl (wh1 m) r
  | [], _, _, _, _ => rfl
  | h :: S, r, nd, hk, hb => by
    obtain ⟨n1, n2⟩ := List.nodup_cons.mp nd
    rw [List.foldl_cons, List.map_cons, List.foldl_cons]
    obtain ⟨e, he, ee⟩ := List.mem_map.mp (hk h List.mem_cons_self)
    have lk : look hs h = some e.2 := by rw [← ee]; exact look_of R.nd he
    have step : lred1 hs r h = wh1 m r (h, (look hs h).getD (0, 0)) := by
      unfold lred1 wh1
      rw [lk, hb h List.mem_cons_self]
      rfl
    rw [← step]
    refine wh_fold R m S (lred1 hs r h) n2 (fun g hg => hk g (List.mem_cons_of_mem _ hg)) fun g hg => ?_
    have ng : g ≠ e.1 := fun z => n1 (by rw [← ee, ← z]; exact hg)
    have eb : e.2.1.testBit g = false := R.oth e he g (hk g (List.mem_cons_of_mem _ hg)) ng
    have rb := hb g (List.mem_cons_of_mem _ hg)
    unfold lred1
    rw [lk]
    split
    · show (r.1 ^^^ e.2.1).testBit g = _
      rw [Nat.testBit_xor, eb, Bool.xor_false, rb]
    · exact rb
theorem wh_lred {hs : List (Nat × Nat × Nat)} (R : RedOk hs) (p : Nat × Nat) : wh hs p = lred hs p := by
  rw [← wh_perm (byHead_perm R)]
  unfold wh byHead lred
  exact (wh_fold R p.1 _ p ((srt_lt _).imp fun h => Nat.ne_of_lt h) (fun h hh => (mem_srt.mp hh).2) (fun h _ => rfl)).symm
theorem wh_bit {hs : List (Nat × Nat × Nat)} (B : ∀ e ∈ hs, e.2.2 < 2) (l : Nat × Nat) (hl : l.2 < 2) : (wh hs l).2 < 2 := by
  have go : ∀ (gs : List (Nat × Nat × Nat)) (r : Nat × Nat), (∀ e ∈ gs, e.2.2 < 2) → r.2 < 2 → (gs.foldl (wh1 l.1) r).2 < 2 := by
    intro gs
    induction gs with
    | nil => intro r _ h; exact h
    | cons e gs ih =>
      intro r hb h
      refine ih _ (fun x hx => hb x (List.mem_cons_of_mem _ hx)) ?_
      unfold wh1
      split
      · exact bit_xor h (hb e List.mem_cons_self)
      · exact h
  exact go hs l B hl
theorem wh_lt {n : Nat} {hs : List (Nat × Nat × Nat)} (B : ∀ e ∈ hs, e.2.1 < 2 ^ n) (l : Nat × Nat) (hl : l.1 < 2 ^ n) : (wh hs l).1 < 2 ^ n := by
  have go : ∀ (gs : List (Nat × Nat × Nat)) (r : Nat × Nat), (∀ e ∈ gs, e.2.1 < 2 ^ n) → r.1 < 2 ^ n → (gs.foldl (wh1 l.1) r).1 < 2 ^ n := by
    intro gs
    induction gs with
    | nil => intro r _ h; exact h
    | cons e gs ih =>
      intro r hb h
      refine ih _ (fun x hx => hb x (List.mem_cons_of_mem _ hx)) ?_
      unfold wh1
      split
      · exact Nat.xor_lt_two_pow h (hb e List.mem_cons_self)
      · exact h
  exact go hs l B hl
theorem wh_heads {hs : List (Nat × Nat × Nat)} (R : RedOk hs) {p : Nat × Nat} (hp : p.1 < 2 ^ 63) : (wh hs p).1 < 2 ^ 63 ∧ ∀ h ∈ hs.map (·.1), (wh hs p).1.testBit h = false := by
  rw [wh_lred R]
  obtain ⟨a, _, c⟩ := lred_spec R hp
  exact ⟨a, c⟩
theorem lput_flat {hs : List (Nat × Nat × Nat)} (F : FlatOk hs) {p : Nat × Nat} {a : Nat} (hp : p.1 < 2 ^ 63) (hl : low p.1 = some a) (no : ∀ h ∈ hs.map (·.1), p.1.testBit h = false) (hb : p.2 < 2) : FlatOk (lput hs a p) := by
  obtain ⟨a1, a2, a3⟩ := low_iff.mp hl
  refine ⟨(lput_ok F.red hp hl no).1, fun e he => ?_, fun e he => ?_⟩
  · unfold lput at he
    rcases List.mem_append.mp he with he | he
    · obtain ⟨e0, h0, rfl⟩ := List.mem_map.mp he
      have l0 := F.least e0 h0
      obtain ⟨b1, b2, b3⟩ := low_iff.mp l0
      by_cases hb : e0.2.1.testBit a = true
      · rw [if_pos hb]
        refine low_xor l0 hl ?_
        have ne : e0.1 ≠ a := fun z => by
          have := no e0.1 (List.mem_map.mpr ⟨e0, h0, rfl⟩)
          rw [z, a2] at this
          cases this
        refine Nat.lt_of_le_of_ne (Nat.le_of_not_lt fun z => ?_) ne
        rw [b3 a z] at hb
        cases hb
      · rw [if_neg hb]
        exact l0
    · have he : e = (a, p.1, p.2) := by simpa using he
      rw [he]
      exact hl
  · unfold lput at he
    rcases List.mem_append.mp he with he | he
    · obtain ⟨e0, h0, rfl⟩ := List.mem_map.mp he
      split
      · exact bit_xor (F.bit e0 h0) hb
      · exact F.bit e0 h0
    · have he : e = (a, p.1, p.2) := by simpa using he
      rw [he]
      exact hb
theorem lput_lt {n : Nat} {hs : List (Nat × Nat × Nat)} {p : Nat × Nat} {a : Nat} (B : ∀ e ∈ hs, e.2.1 < 2 ^ n) (hp : p.1 < 2 ^ n) : ∀ e ∈ lput hs a p, e.2.1 < 2 ^ n := fun e he => by
  unfold lput at he
  rcases List.mem_append.mp he with he | he
  · obtain ⟨e0, h0, rfl⟩ := List.mem_map.mp he
    split
    · exact Nat.xor_lt_two_pow (B e0 h0) hp
    · exact B e0 h0
  · have he : e = (a, p.1, p.2) := by simpa using he
    rw [he]
    exact hp
theorem lstep_eq {hs : List (Nat × Nat × Nat)} (R : RedOk hs) (l : Nat × Nat) : lstep hs l = match low (wh hs l).1 with
    | none => if (wh hs l).2 = 1 then none else some hs
    | some a => some (lput hs a (wh hs l)) := by
  unfold lstep
  rw [wh_lred R]
  first
    | done
    | (cases low (lred hs l).1 <;> rfl)
theorem lstep_flat {hs gs : List (Nat × Nat × Nat)} (F : FlatOk hs) {l : Nat × Nat} (hl : l.1 < 2 ^ 63) (hb : l.2 < 2) (e : lstep hs l = some gs) : FlatOk gs := by
  rw [lstep_eq F.red] at e
  obtain ⟨w1, w2⟩ := wh_heads F.red hl
  cases q : low (wh hs l).1 with
  | none =>
    rw [q] at e
    by_cases z : (wh hs l).2 = 1
    · simp [z] at e
    · simp [z] at e
      rw [← e]; exact F
  | some a =>
    rw [q] at e
    have e := Option.some.inj e
    rw [← e]
    exact lput_flat F w1 q w2 (wh_bit F.bit l hb)
theorem lstep_lt {n : Nat} {hs gs : List (Nat × Nat × Nat)} (R : RedOk hs) (B : ∀ e ∈ hs, e.2.1 < 2 ^ n) {l : Nat × Nat} (hl : l.1 < 2 ^ n) (e : lstep hs l = some gs) : ∀ x ∈ gs, x.2.1 < 2 ^ n := by
  rw [lstep_eq R] at e
  cases q : low (wh hs l).1 with
  | none =>
    rw [q] at e
    by_cases z : (wh hs l).2 = 1
    · simp [z] at e
    · simp [z] at e
      rw [← e]; exact B
  | some a =>
    rw [q] at e
    have e := Option.some.inj e
    rw [← e]
    exact lput_lt B (wh_lt B l hl)
theorem snoc_ind {P : List (Nat × Nat) → Prop} (h0 : P []) (h1 : ∀ ls l, P ls → P (ls ++ [l])) (ls : List (Nat × Nat)) : P ls := by
  have go : ∀ n (ls : List (Nat × Nat)), ls.length = n → P ls := by
    intro n
    induction n with
    | zero => intro ls h; rw [List.length_eq_zero_iff.mp h]; exact h0
    | succ n ih =>
      intro ls h
      have hne : ls ≠ [] := by intro z; subst z; cases h
      obtain ⟨pre, m, rfl⟩ : ∃ pre m, ls = pre ++ [m] := ⟨ls.dropLast, ls.getLast hne, (List.dropLast_concat_getLast hne).symm⟩
      exact h1 pre m (ih pre (by simpa using h))
  exact go _ ls rfl
theorem lflat_flat (ls : List (Nat × Nat)) : (∀ l ∈ ls, l.1 < 2 ^ 63 ∧ l.2 < 2) → ∀ hs, lflat ls = some hs → FlatOk hs := by
  refine snoc_ind (P := fun ls => (∀ l ∈ ls, l.1 < 2 ^ 63 ∧ l.2 < 2) → ∀ hs, lflat ls = some hs → FlatOk hs) ?_ ?_ ls
  · intro _ hs e
    have e : some [] = some hs := e
    rw [← Option.some.inj e]
    exact flat_nil
  · intro ls l ih hl hs e
    rw [lflat_snoc] at e
    cases q : lflat ls with
    | none => rw [q] at e; cases e
    | some gs =>
      rw [q] at e
      have F := ih (fun x hx => hl x (List.mem_append_left _ hx)) gs q
      obtain ⟨h1, h2⟩ := hl l (List.mem_append_right _ List.mem_cons_self)
      exact lstep_flat F h1 h2 e
theorem lflat_lt {n : Nat} (hn : n ≤ 63) (ls : List (Nat × Nat)) : (∀ l ∈ ls, l.1 < 2 ^ n ∧ l.2 < 2) → ∀ hs, lflat ls = some hs → ∀ e ∈ hs, e.2.1 < 2 ^ n := by
  refine snoc_ind (P := fun ls => (∀ l ∈ ls, l.1 < 2 ^ n ∧ l.2 < 2) → ∀ hs, lflat ls = some hs → ∀ e ∈ hs, e.2.1 < 2 ^ n) ?_ ?_ ls
  · intro _ hs e
    have e : some [] = some hs := e
    rw [← Option.some.inj e]
    intro x hx
    cases hx
  · intro ls l ih hl hs e
    rw [lflat_snoc] at e
    cases q : lflat ls with
    | none => rw [q] at e; cases e
    | some gs =>
      rw [q] at e
      have F := lflat_flat ls (fun x hx => by
        obtain ⟨a, b⟩ := hl x (List.mem_append_left _ hx)
        exact ⟨Nat.lt_of_lt_of_le a (Nat.pow_le_pow_right (by decide) hn), b⟩) gs q
      exact lstep_lt F.red (ih (fun x hx => hl x (List.mem_append_left _ hx)) gs q) (hl l (List.mem_append_right _ List.mem_cons_self)).1 e
def parL (m : Nat) (f : Nat → Bool) (L : List Nat) : Bool := L.foldl (fun b u => b ^^ (m.testBit u && f u)) false
def par (m : Nat) (f : Nat → Bool) : Bool := parL m f (List.range 63)
def holdsL (l : Nat × Nat) (f : Nat → Bool) : Prop := par l.1 f = decide (l.2 = 1)
theorem parL_xor (a b : Nat) (f : Nat → Bool) (L : List Nat) : parL (a ^^^ b) f L = (parL a f L ^^ parL b f L) := by
  have go : ∀ (L : List Nat) (x y : Bool), L.foldl (fun c u => c ^^ ((a ^^^ b).testBit u && f u)) (x ^^ y) = (L.foldl (fun c u => c ^^ (a.testBit u && f u)) x ^^ L.foldl (fun c u => c ^^ (b.testBit u && f u)) y) := by
    intro L
    induction L with
    | nil => intro x y; rfl
    | cons u L ih =>
      intro x y
      rw [List.foldl_cons, List.foldl_cons, List.foldl_cons, ← ih]
      congr 1
      rw [Nat.testBit_xor]
      cases a.testBit u <;> cases b.testBit u <;> cases f u <;> cases x <;> cases y <;> rfl
  exact go L false false
theorem par_xor (a b : Nat) (f : Nat → Bool) : par (a ^^^ b) f = (par a f ^^ par b f) := parL_xor a b f _
theorem bit_dec {a b : Nat} (ha : a < 2) (hb : b < 2) : decide (a ^^^ b = 1) = (decide (a = 1) ^^ decide (b = 1)) := by
  have ha : a = 0 ∨ a = 1 := by omega
  have hb : b = 0 ∨ b = 1 := by omega
  rcases ha with rfl | rfl <;> rcases hb with rfl | rfl <;> rfl
theorem holds_xor {l k : Nat × Nat} {f : Nat → Bool} (hl : l.2 < 2) (hk : k.2 < 2) (h : holdsL k f) : holdsL (l.1 ^^^ k.1, l.2 ^^^ k.2) f ↔ holdsL l f := by
  unfold holdsL at *
  show par (l.1 ^^^ k.1) f = decide (l.2 ^^^ k.2 = 1) ↔ _
  rw [par_xor, bit_dec hl hk, h]
  cases par l.1 f <;> cases decide (l.2 = 1) <;> cases decide (k.2 = 1) <;> simp
def sol (hs : List (Nat × Nat × Nat)) (f : Nat → Bool) : Prop := ∀ e ∈ hs, holdsL e.2 f
theorem wh_holds {hs : List (Nat × Nat × Nat)} (B : ∀ e ∈ hs, e.2.2 < 2) {f : Nat → Bool} (s : sol hs f) {l : Nat × Nat} (hl : l.2 < 2) : holdsL (wh hs l) f ↔ holdsL l f := by
  have go : ∀ (gs : List (Nat × Nat × Nat)) (r : Nat × Nat), (∀ e ∈ gs, e.2.2 < 2) → sol gs f → r.2 < 2 → (holdsL (gs.foldl (wh1 l.1) r) f ↔ holdsL r f) := by
    intro gs
    induction gs with
    | nil => intro r _ _ _; exact Iff.rfl
    | cons e gs ih =>
      intro r hb hs hr
      have e2 := hb e List.mem_cons_self
      rw [List.foldl_cons]
      have st : (wh1 l.1 r e).2 < 2 ∧ (holdsL (wh1 l.1 r e) f ↔ holdsL r f) := by
        unfold wh1
        split
        · exact ⟨bit_xor hr e2, holds_xor hr e2 (hs e List.mem_cons_self)⟩
        · exact ⟨hr, Iff.rfl⟩
      exact (ih _ (fun x hx => hb x (List.mem_cons_of_mem _ hx)) (fun x hx => hs x (List.mem_cons_of_mem _ hx)) st.1).trans st.2
  exact go hs l B s hl
theorem lput_sol {hs : List (Nat × Nat × Nat)} (B : ∀ e ∈ hs, e.2.2 < 2) {p : Nat × Nat} (hp : p.2 < 2) (a : Nat) (f : Nat → Bool) : sol (lput hs a p) f ↔ sol hs f ∧ holdsL p f := by
  have hp1 : (sol (lput hs a p) f) → holdsL p f := fun s => s (a, p.1, p.2) (List.mem_append_right _ List.mem_cons_self)
  constructor
  · intro s
    refine ⟨fun e he => ?_, hp1 s⟩
    have h := s _ (List.mem_append_left _ (List.mem_map.mpr ⟨e, he, rfl⟩))
    by_cases hb : e.2.1.testBit a = true
    · rw [if_pos hb] at h
      exact (holds_xor (B e he) hp (hp1 s)).mp h
    · rw [if_neg hb] at h
      exact h
  · rintro ⟨s, h⟩ e he
    rcases List.mem_append.mp he with he | he
    · obtain ⟨e0, h0, rfl⟩ := List.mem_map.mp he
      by_cases hb : e0.2.1.testBit a = true
      · rw [if_pos hb]
        exact (holds_xor (B e0 h0) hp h).mpr (s e0 h0)
      · rw [if_neg hb]
        exact s e0 h0
    · have he : e = (a, p.1, p.2) := by simpa using he
      rw [he]
      exact h
theorem par_zero (f : Nat → Bool) : par 0 f = false := by
  unfold par parL
  have go : ∀ (L : List Nat), L.foldl (fun b u => b ^^ ((0 : Nat).testBit u && f u)) false = false := by
    intro L
    induction L with
    | nil => rfl
    | cons u L ih =>
      rw [List.foldl_cons, Nat.zero_testBit]
      exact ih
  exact go _
theorem lstep_some {hs gs : List (Nat × Nat × Nat)} (F : FlatOk hs) {l : Nat × Nat} (hl : l.1 < 2 ^ 63) (hb : l.2 < 2) (e : lstep hs l = some gs) (f : Nat → Bool) : sol gs f ↔ sol hs f ∧ holdsL l f := by
  rw [lstep_eq F.red] at e
  obtain ⟨w1, w2⟩ := wh_heads F.red hl
  have wb := wh_bit F.bit l hb
  cases q : low (wh hs l).1 with
  | none =>
    rw [q] at e
    have w0 := (low_none w1).mp q
    by_cases z : (wh hs l).2 = 1
    · simp [z] at e
    · simp [z] at e
      rw [← e]
      refine ⟨fun s => ⟨s, (wh_holds F.bit s hb).mp ?_⟩, fun s => s.1⟩
      unfold holdsL
      rw [w0, par_zero, decide_eq_false z]
  | some a =>
    rw [q] at e
    have e := Option.some.inj e
    rw [← e, lput_sol F.bit wb]
    exact ⟨fun ⟨s, h⟩ => ⟨s, (wh_holds F.bit s hb).mp h⟩, fun ⟨s, h⟩ => ⟨s, (wh_holds F.bit s hb).mpr h⟩⟩
theorem lstep_no {hs : List (Nat × Nat × Nat)} (F : FlatOk hs) {l : Nat × Nat} (hl : l.1 < 2 ^ 63) (hb : l.2 < 2) (e : lstep hs l = none) (f : Nat → Bool) (s : sol hs f) : ¬ holdsL l f := by
  rw [lstep_eq F.red] at e
  obtain ⟨w1, w2⟩ := wh_heads F.red hl
  cases q : low (wh hs l).1 with
  | none =>
    rw [q] at e
    have w0 := (low_none w1).mp q
    by_cases z : (wh hs l).2 = 1
    · intro h
      have h := (wh_holds F.bit s hb).mpr h
      unfold holdsL at h
      rw [w0, par_zero, decide_eq_true z] at h
      cases h
    · simp [z] at e
  | some a =>
    rw [q] at e
    cases e
theorem lflat_sol (ls : List (Nat × Nat)) : (∀ l ∈ ls, l.1 < 2 ^ 63 ∧ l.2 < 2) → (∀ hs, lflat ls = some hs → ∀ f, sol hs f ↔ ∀ l ∈ ls, holdsL l f) ∧ (lflat ls = none → ∀ f, ¬ ∀ l ∈ ls, holdsL l f) := by
  refine snoc_ind (P := fun ls => (∀ l ∈ ls, l.1 < 2 ^ 63 ∧ l.2 < 2) → (∀ hs, lflat ls = some hs → ∀ f, sol hs f ↔ ∀ l ∈ ls, holdsL l f) ∧ (lflat ls = none → ∀ f, ¬ ∀ l ∈ ls, holdsL l f)) ?_ ?_ ls
  · intro _
    refine ⟨fun hs e f => ?_, fun e => ?_⟩
    · have e : some [] = some hs := e
      rw [← Option.some.inj e]
      exact ⟨(fun _ l hl => by cases hl), (fun _ e he => by cases he)⟩
    · have e : some [] = none := e
      cases e
  · intro ls l ih hl
    have hl0 : ∀ x ∈ ls, x.1 < 2 ^ 63 ∧ x.2 < 2 := fun x hx => hl x (List.mem_append_left _ hx)
    obtain ⟨h1, h2⟩ := hl l (List.mem_append_right _ List.mem_cons_self)
    obtain ⟨i1, i2⟩ := ih hl0
    have split : ∀ f, (∀ x ∈ ls ++ [l], holdsL x f) ↔ (∀ x ∈ ls, holdsL x f) ∧ holdsL l f := fun f => by
      constructor
      · exact fun h => ⟨fun x hx => h x (List.mem_append_left _ hx), h l (List.mem_append_right _ List.mem_cons_self)⟩
      · rintro ⟨ha, hb⟩ x hx
        rcases List.mem_append.mp hx with hx | hx
        · exact ha x hx
        · have hx : x = l := by simpa using hx
          rw [hx]; exact hb
    rw [lflat_snoc]
    cases q : lflat ls with
    | none => exact ⟨fun hs e => (by cases e), fun _ f h => i2 q f ((split f).mp h).1⟩
    | some gs =>
      have F := lflat_flat ls hl0 gs q
      refine ⟨fun hs e f => ?_, fun e f h => ?_⟩
      · rw [lstep_some F h1 h2 e f, split, i1 gs q f]
      · obtain ⟨ha, hb⟩ := (split f).mp h
        exact lstep_no F h1 h2 e f ((i1 gs q f).mpr ha) hb
theorem par_single {m h : Nat} {f : Nat → Bool} (hh : h < 63) (no : ∀ u, u ≠ h → (m.testBit u && f u) = false) : par m f = (m.testBit h && f h) := by
  have go : ∀ (n : Nat) , parL m f (List.range n) = if h < n then (m.testBit h && f h) else false := by
    intro n
    induction n with
    | zero => rfl
    | succ n ih =>
      have st : parL m f (List.range (n + 1)) = (parL m f (List.range n) ^^ (m.testBit n && f n)) := by
        unfold parL
        rw [List.range_succ, List.foldl_append]
        rfl
      rw [st, ih]
      by_cases z : n = h
      · subst z
        rw [if_neg (Nat.lt_irrefl _), if_pos (Nat.lt_succ_self _), Bool.false_xor]
      · rw [no n z, Bool.xor_false]
        by_cases y : h < n
        · rw [if_pos y, if_pos (by omega)]
        · rw [if_neg y, if_neg (by omega)]
  have := go 63
  rw [if_pos hh] at this
  exact this
theorem flat_has {hs : List (Nat × Nat × Nat)} (F : FlatOk hs) : ∃ f : Nat → Bool, sol hs f := by
  refine ⟨fun u => match look hs u with | some q => decide (q.2 = 1) | none => false, fun e he => ?_⟩
  obtain ⟨o1, o2, o3⟩ := F.red.own e he
  unfold holdsL
  rw [par_single (h := e.1) o1 fun u nu => ?_]
  · rw [o3, look_of F.red.nd he]
    exact Bool.true_and _
  · cases q : look hs u with
    | none => exact Bool.and_false _
    | some p =>
      have := F.red.oth e he u (List.mem_map.mpr ⟨_, look_mem q, rfl⟩) nu
      rw [this]
      rfl
theorem flat_free {hs : List (Nat × Nat × Nat)} (F : FlatOk hs) {l : Nat × Nat} (hl : l.1 < 2 ^ 63) (hb : l.2 < 2) (nz : (wh hs l).1 ≠ 0) : ∃ f, sol hs f ∧ holdsL l f := by
  obtain ⟨w1, w2⟩ := wh_heads F.red hl
  obtain ⟨a, ha⟩ := low_some w1 nz
  have wb := wh_bit F.bit l hb
  obtain ⟨f, s⟩ := flat_has (lput_flat F w1 ha w2 wb)
  obtain ⟨s1, s2⟩ := (lput_sol F.bit wb a f).mp s
  exact ⟨f, s1, (wh_holds F.bit s1 hb).mp s2⟩
theorem flat_told {hs : List (Nat × Nat × Nat)} (F : FlatOk hs) {l : Nat × Nat} (hb : l.2 < 2) (z : (wh hs l).1 = 0) {f : Nat → Bool} (s : sol hs f) : holdsL l f ↔ (wh hs l).2 = 0 := by
  rw [← wh_holds F.bit s hb]
  unfold holdsL
  have wb := wh_bit F.bit l hb
  rw [z, par_zero]
  constructor
  · intro h
    have : ¬ (wh hs l).2 = 1 := fun y => by rw [decide_eq_true y] at h; cases h
    omega
  · intro h
    rw [h]
    rfl
theorem wh_row (hs : List (Nat × Nat × Nat)) (m a b : Nat) : (wh hs (m, a)).1 = (wh hs (m, b)).1 ∧ (wh hs (m, a)).2 ^^^ b = (wh hs (m, b)).2 ^^^ a := by
  have x3 : ∀ a b c : Nat, a ^^^ b ^^^ c = a ^^^ c ^^^ b := fun a b c => by rw [Nat.xor_assoc, Nat.xor_comm b c, ← Nat.xor_assoc]
  have go : ∀ (gs : List (Nat × Nat × Nat)) (r s : Nat × Nat), r.1 = s.1 → r.2 ^^^ b = s.2 ^^^ a → (gs.foldl (wh1 m) r).1 = (gs.foldl (wh1 m) s).1 ∧ (gs.foldl (wh1 m) r).2 ^^^ b = (gs.foldl (wh1 m) s).2 ^^^ a := by
    intro gs
    induction gs with
    | nil => intro r s h1 h2; exact ⟨h1, h2⟩
    | cons e gs ih =>
      intro r s h1 h2
      refine ih _ _ ?_ ?_
      · unfold wh1
        split
        · show r.1 ^^^ _ = s.1 ^^^ _
          rw [h1]
        · exact h1
      · unfold wh1
        split
        · show r.2 ^^^ e.2.2 ^^^ b = s.2 ^^^ e.2.2 ^^^ a
          rw [x3, h2, x3]
        · exact h2
  exact go hs (m, a) (m, b) rfl (Nat.xor_comm a b)
end Es
set_option Elab.async false
set_option linter.all false
set_option maxRecDepth 100000
set_option maxHeartbeats 4000000
namespace Es
open PySem PySem.Spec PyProof.Rows L2
def iOr (t1 t2 : TI) : TI := fun σ H R => t1 σ H R ∨ t2 σ H R
theorem pi_or {X : Cx} {tg e : Expr} {t1 t2 : TI} (h1 : PI X tg e t1) (h2 : PI X tg e t2) : PI X tg e (iOr t1 t2) :=
  ⟨fun pins s σ H R I h => by
    rcases h with h | h
    · exact h1.run pins s σ H R I h
    · exact h2.run pins s σ H R I h⟩
theorem Sq.same {K : PySem.W.Frag} {H H' : Hp} {a : Addr} {xs : List V} (s : Same H H') (h : Sq K H a xs) : Sq K H' a xs := by
  rcases h with h | h
  · exact .inl (s.seq h)
  · exact .inr (sqT_same s h)
def Lines (K : PySem.W.Frag) (H : Hp) (a : Addr) (us : List V) (hs : List (Nat × Nat × Nat)) : Prop := Sq K H a us ∧ Paired (LineV K H) us (hs.map (·.2)) ∧ ∀ e ∈ hs, low e.2.1 = some e.1 ∧ e.2.1 < 2 ^ 63
theorem lines_same {K : PySem.W.Frag} {H H' : Hp} {us : List V} {ls : List (Nat × Nat)} (s : Same H H') (h : Paired (LineV K H) us ls) : Paired (LineV K H') us ls := Paired.mono2 (fun _ _ => LineV.same s) h
theorem Lines.same {K : PySem.W.Frag} {H H' : Hp} {a : Addr} {us : List V} {hs : List (Nat × Nat × Nat)} (s : Same H H') (h : Lines K H a us hs) : Lines K H' a us hs := ⟨h.1.same s, lines_same s h.2.1, h.2.2⟩
def sp_both (K : PySem.W.Frag) : Sp := fun vs H Q _ => ∃ (v u : V) (l k : Nat × Nat), vs = [v, u] ∧ LineV K H v l ∧ LineV K H u k ∧ l.1 < 2 ^ 63 ∧ k.1 < 2 ^ 63 ∧
  ∀ H' p, Same H H' → H p = none → LineV K H' (.ref p) (l.1 ^^^ k.1, l.2 ^^^ k.2) → Q (.ref p) H'
def sp_without_heads (K : PySem.W.Frag) : Sp := fun vs H Q _ => ∃ (a : Addr) (us : List V) (hs : List (Nat × Nat × Nat)) (v : V) (l : Nat × Nat), vs = [.ref a, v] ∧ Lines K H a us hs ∧ LineV K H v l ∧ l.1 < 2 ^ 63 ∧
  ∀ H' v', Same H H' → LineV K H' v' (wh hs l) → Q v' H'
def canon (hs : List (Nat × Nat × Nat)) : List (Nat × Nat) := (byHead hs).map (·.2)
def FlatV (K : PySem.W.Frag) (H : Hp) (v : V) (hs : List (Nat × Nat × Nat)) : Prop := ∃ t us, v = .ref t ∧ SqT K H t us ∧ Paired (LineV K H) us (canon hs)
theorem FlatV.same {K : PySem.W.Frag} {H H' : Hp} {v : V} {hs : List (Nat × Nat × Nat)} (s : Same H H') (h : FlatV K H v hs) : FlatV K H' v hs := by
  obtain ⟨t, us, rfl, h1, h2⟩ := h
  exact ⟨t, us, rfl, sqT_same s h1, lines_same s h2⟩
def OptFlat (K : PySem.W.Frag) (H : Hp) (v : V) : Option (List (Nat × Nat × Nat)) → Prop
  | none => v = .non
  | some hs => FlatV K H v hs
def sp_flat_of (K : PySem.W.Frag) : Sp := fun vs H Q _ => ∃ (a : Addr) (us : List V) (ls : List (Nat × Nat)), vs = [.ref a] ∧ SqL K H a us ∧ Paired (LineV K H) us ls ∧ (∀ l ∈ ls, l.1 < 2 ^ 63 ∧ l.2 < 2) ∧
  ∀ H' v, Same H H' → OptFlat K H' v (lflat ls) → Q v H'
def sp_reduced (K : PySem.W.Frag) : Sp := fun vs H Q _ => ∃ (v u : V) (hs : List (Nat × Nat × Nat)) (m : Nat), vs = [v, u] ∧ FlatV K H v hs ∧ FlatOk hs ∧ SumV K H u m ∧ m < 2 ^ 63 ∧
  ∀ H' v', Same H H' → SumV K H' v' (wh hs (m, 0)).1 → Q v' H'
def toldV (hs : List (Nat × Nat × Nat)) (m : Nat) : V := if (wh hs (m, 0)).1 = 0 then .int ((wh hs (m, 0)).2 : Int) else .non
def sp_told_on (K : PySem.W.Frag) : Sp := fun vs H Q _ => ∃ (v u : V) (hs : List (Nat × Nat × Nat)) (m : Nat), vs = [v, u] ∧ FlatV K H v hs ∧ FlatOk hs ∧ SumV K H u m ∧ m < 2 ^ 63 ∧
  ∀ H', Same H H' → Q (toldV hs m) H'
def sp_halves (K : PySem.W.Frag) : Sp := fun vs H Q _ => ∃ (v u : V) (hs : List (Nat × Nat × Nat)) (m : Nat), vs = [v, u] ∧ FlatV K H v hs ∧ FlatOk hs ∧ SumV K H u m ∧ m < 2 ^ 63 ∧
  ((wh hs (m, 0)).1 = 0 → ∀ H', Same H H' → Q .non H') ∧
  ((wh hs (m, 0)).1 ≠ 0 → ∀ H' p v0 v1, Same H H' → H p = none → H' p = some (.tup [v0, v1]) → OptFlat K H' v0 (lflat (canon hs ++ [(m, 0)])) → OptFlat K H' v1 (lflat (canon hs ++ [(m, 1)])) → Q (.ref p) H')
theorem canon_lines {hs : List (Nat × Nat × Nat)} (F : FlatOk hs) : (byHead hs).map (·.2) = canon hs ∧ ∀ e ∈ byHead hs, low e.2.1 = some e.1 ∧ e.2.1 < 2 ^ 63 :=
  ⟨rfl, fun e he => by
    have := (byHead_perm F.red).mem_iff.mp he
    exact ⟨F.least e this, (F.red.own e this).2.1⟩⟩
theorem FlatV.lines {K : PySem.W.Frag} {H : Hp} {v : V} {hs : List (Nat × Nat × Nat)} (F : FlatOk hs) (h : FlatV K H v hs) : ∃ t us, v = .ref t ∧ Lines K H t us (byHead hs) := by
  obtain ⟨t, us, rfl, h1, h2⟩ := h
  exact ⟨t, us, rfl, .inr h1, h2, (canon_lines F).2⟩
theorem wh_byHead {hs : List (Nat × Nat × Nat)} (F : FlatOk hs) (l : Nat × Nat) : wh (byHead hs) l = wh hs l := wh_perm (byHead_perm F.red) l
theorem in_row {m h : Nat} (h63 : h < 63) : inV (.int (h : Int)) (iv (bts m)) = m.testBit h := by
  unfold inV iv
  rw [List.any_map, Bool.eq_iff_iff, List.any_eq_true]
  constructor
  · rintro ⟨x, hx, e⟩
    have e : eqV (.int (x : Int)) (.int (h : Int)) = true := e
    have e : ((x : Int) == (h : Int)) = true := e
    have e : x = h := by have := beq_iff_eq.mp e; omega
    subst e
    exact (mem_bts.mp hx).2
  · intro hb
    exact ⟨h, mem_bts.mpr ⟨h63, hb⟩, show ((h : Int) == (h : Int)) = true from beq_iff_eq.mpr rfl⟩
theorem flat_iv (l : List Nat) : (iv l).all flatV = true := by
  unfold iv
  rw [List.all_map, List.all_eq_true]
  exact fun _ _ => rfl
end Es
set_option Elab.async false
set_option linter.all false
set_option maxRecDepth 100000
set_option maxHeartbeats 4000000
namespace Es
open PySem PySem.Spec PyProof.Rows L2
def hd (l : Nat × Nat) : Nat := (low l.1).getD 63
theorem hd_of {l : Nat × Nat} {h : Nat} (e : low l.1 = some h) : hd l = h := by
  unfold hd
  rw [e]
  rfl
theorem lt_sum {a b h g : Nat} (ha : low a = some h) (hb : low b = some g) (n : h ≠ g) : PySem.W.dataLt (sumD a) (sumD b) = decide (h < g) := by
  obtain ⟨ta, ea⟩ := low_cons ha
  obtain ⟨tb, eb⟩ := low_cons hb
  unfold sumD
  rw [PySem.W.dataLt_tuple]
  show PySem.W.rowLt _ _ = _
  rw [PySem.W.dataLt_ints, ea, eb, List.map_cons, List.map_cons]
  rw [decide_eq_decide, List.cons_lt_cons_iff]
  constructor
  · rintro (z | ⟨z, _⟩)
    · exact Int.ofNat_lt.mp z
    · exact absurd (Int.ofNat.inj z) n
  · exact fun z => .inl (Int.ofNat_lt.mpr z)
theorem alike_sumD (a b : Nat) : PySem.W.alike (sumD a) (sumD b) = true := by
  have h := alike_lineD (a, 0) (b, 0)
  unfold lineD at h
  simp only [PySem.W.alike] at h
  simpa [PySem.W.alike, PySem.W.alikeAll] using h
theorem lt_line {l k : Nat × Nat} {h g : Nat} (hl : low l.1 = some h) (hk : low k.1 = some g) (n : h ≠ g) (l63 : l.1 < 2 ^ 63) (k63 : k.1 < 2 ^ 63) : PySem.W.dataLt (lineD l) (lineD k) = decide (h < g) := by
  unfold lineD
  rw [PySem.W.dataLt_pair (alike_sumD _ _) (by simp [PySem.W.alike])]
  rw [if_neg fun z => n ?_]
  · exact lt_sum hl hk n
  · have := eqv_sumD_iff l63 k63 z
    rw [this] at hl
    exact Option.some.inj (hl.symm.trans hk)
theorem lt_same (l : Nat × Nat) : PySem.W.dataLt (lineD l) (lineD l) = false := by
  unfold lineD
  rw [PySem.W.dataLt_pair (alike_sumD _ _) (by simp [PySem.W.alike]), if_pos (eqv_sumD _), if_pos]
  show ((l.2 : Int) == (l.2 : Int)) = true
  exact beq_iff_eq.mpr rfl
theorem sorted_lines {K : PySem.W.Frag} {H : Hp} {hs : List (Nat × Nat × Nat)} (F : FlatOk hs) {cs : List (V × (Nat × Nat))} (hv : ∀ c ∈ cs, LineV K H c.1 c.2) (p : (cs.map (·.2)).Perm (hs.map (·.2))) :
    Paired (LineV K H) (((cs.map fun c => ((c.1, lineD c.2) : V × PyData)).mergeSort (PySem.W.dataLe false (·.2))).map (·.1)) (canon hs) := by
  have mem : ∀ c ∈ cs, ∃ e ∈ hs, c.2 = e.2 ∧ low c.2.1 = some e.1 ∧ c.2.1 < 2 ^ 63 := fun c hc => by
    obtain ⟨e, he, z⟩ := List.mem_map.mp (p.mem_iff.mp (List.mem_map.mpr ⟨c, hc, rfl⟩))
    have z : e.2 = c.2 := z
    exact ⟨e, he, z.symm, by rw [← z]; exact F.least e he, by rw [← z]; exact (F.red.own e he).2.1⟩
  have key : ∀ a ∈ cs, ∀ b ∈ cs, (decide (hd a.2 ≤ hd b.2)) = PySem.W.dataLe false (fun (b : V × PyData) => b.2) (a.1, lineD a.2) (b.1, lineD b.2) := fun a ha b hb => by
    rw [PySem.W.dataLe_eq]
    show _ = !PySem.W.dataLt (lineD b.2) (lineD a.2)
    obtain ⟨e, he, ea, la, a63⟩ := mem a ha
    obtain ⟨g, hg, eb, lb, b63⟩ := mem b hb
    rw [hd_of la, hd_of lb]
    by_cases n : g.1 = e.1
    · have : g = e := by
        have h1 := look_of F.red.nd hg
        have h2 := look_of F.red.nd he
        rw [n, h2] at h1
        exact Prod.ext n (Option.some.inj h1).symm
      subst this
      rw [ea, eb, lt_same, decide_eq_true (Nat.le_refl _)]
      rfl
    · rw [lt_line lb la n b63 a63]
      by_cases z : g.1 < e.1
      · rw [decide_eq_true z, decide_eq_false (by omega)]
        rfl
      · rw [decide_eq_false z, decide_eq_true (by omega)]
        rfl
  rw [← List.map_mergeSort (r := fun a b : V × (Nat × Nat) => decide (hd a.2 ≤ hd b.2)) (f := fun c : V × (Nat × Nat) => ((c.1, lineD c.2) : V × PyData)) key, List.map_map]
  have srt1 := List.pairwise_mergeSort (le := fun a b : V × (Nat × Nat) => decide (hd a.2 ≤ hd b.2)) (fun a b c h1 h2 => by simp only [decide_eq_true_eq] at *; omega) (fun a b => by simp only [Bool.or_eq_true, decide_eq_true_eq]; omega) cs
  have perm1 := List.mergeSort_perm cs (fun a b : V × (Nat × Nat) => decide (hd a.2 ≤ hd b.2))
  generalize cs.mergeSort (fun a b : V × (Nat × Nat) => decide (hd a.2 ≤ hd b.2)) = zs at srt1 perm1
  have hz : ∀ c ∈ zs, LineV K H c.1 c.2 := fun c hc => hv c (perm1.mem_iff.mp hc)
  have ez : zs.map (·.2) = canon hs := by
    refine List.Perm.eq_of_pairwise (le := fun a b => hd a ≤ hd b) ?_ ?_ ?_ ?_
    · intro a b ha hb h1 h2
      obtain ⟨c, hc, rfl⟩ := List.mem_map.mp ha
      obtain ⟨e, he, ea, la, _⟩ := mem c (perm1.mem_iff.mp hc)
      unfold canon at hb
      obtain ⟨g, hg, rfl⟩ := List.mem_map.mp hb
      have hg := (byHead_perm F.red).mem_iff.mp hg
      have lg := F.least g hg
      rw [hd_of la, hd_of lg] at h1 h2
      have n : e.1 = g.1 := by omega
      have h1 := look_of F.red.nd hg
      have h2 := look_of F.red.nd he
      rw [← n, h2] at h1
      rw [ea]
      exact Option.some.inj h1
    · rw [List.pairwise_map]
      exact srt1.imp fun h => by simpa using h
    · unfold canon
      rw [List.pairwise_map]
      have k := srt_lt (hs.map (·.1))
      rw [← byHead_keys, List.pairwise_map] at k
      refine k.imp_of_mem fun {a b} ha hb h => ?_
      have ha := F.least a ((byHead_perm F.red).mem_iff.mp ha)
      have hb := F.least b ((byHead_perm F.red).mem_iff.mp hb)
      rw [hd_of ha, hd_of hb]
      exact Nat.le_of_lt h
    · refine (perm1.map (·.2)).trans (p.trans ?_)
      unfold canon
      exact ((byHead_perm F.red).map (·.2)).symm
  rw [← ez]
  clear ez srt1 perm1
  induction zs with
  | nil => exact .nil
  | cons c zs ih => exact .cons (hz c List.mem_cons_self) (ih fun x hx => hz x (List.mem_cons_of_mem _ hx))
theorem lines_but {K : PySem.W.Frag} {H H' : Hp} {b : Addr} {ys us : List V} {ls : List (Nat × Nat)} (hb : H b = some (.lst ys)) (s : But b H H') (h : Paired (LineV K H) us ls) : Paired (LineV K H') us ls := Paired.mono2 (fun _ _ => LineV.but hb s) h
theorem paired_zip {α β : Type} {R : α → β → Prop} : ∀ {xs : List α} {ys : List β}, PySem.Paired R xs ys → ∀ c ∈ xs.zip ys, R c.1 c.2
  | _, _, .nil => fun c hc => by cases hc
  | _, _, .cons h t => fun c hc => by
    rw [List.zip_cons_cons] at hc
    rcases List.mem_cons.mp hc with hc | hc
    · rw [hc]; exact h
    · exact paired_zip t c hc
theorem lput_lines (hs : List (Nat × Nat × Nat)) (a : Nat) (p : Nat × Nat) : (lput hs a p).map (·.2) = (hs.map fun e => wh1 e.2.1 e.2 (a, p)) ++ [p] := by
  unfold lput
  rw [List.map_append, List.map_map]
  congr 1
  refine List.map_congr_left fun e _ => ?_
  show (if e.2.1.testBit a = true then (e.1, e.2.1 ^^^ p.1, e.2.2 ^^^ p.2) else e).2 = wh1 e.2.1 e.2 (a, p)
  unfold wh1
  by_cases z : e.2.1.testBit a = true
  · rw [if_pos z, if_pos z]
  · rw [if_neg z, if_neg z]
theorem sort_facts {K : PySem.W.Frag} {H : Hp} {cs : List (V × (Nat × Nat))} (hv : ∀ c ∈ cs, LineV K H c.1 c.2) :
    (∀ b ∈ cs.map (fun c => ((c.1, lineD c.2) : V × PyData)), Dp K H b.1 b.2) ∧ PySem.W.AllAlike ((cs.map (fun c => ((c.1, lineD c.2) : V × PyData))).map (·.2)) ∧ PySem.W.Sortable ((cs.map (fun c => ((c.1, lineD c.2) : V × PyData))).map (·.2)) ∧ (∀ b ∈ cs.map (fun c => ((c.1, lineD c.2) : V × PyData)), b.2.depth ≤ 40) := by
  refine ⟨fun b hb => ?_, fun d1 h1 d2 h2 => ?_, .inl fun d1 h1 => ?_, fun b hb => ?_⟩
  · obtain ⟨c, hc, rfl⟩ := List.mem_map.mp hb
    exact dp_line (hv c hc)
  · obtain ⟨x1, m1, rfl⟩ := List.mem_map.mp h1
    obtain ⟨x2, m2, rfl⟩ := List.mem_map.mp h2
    obtain ⟨c1, _, rfl⟩ := List.mem_map.mp m1
    obtain ⟨c2, _, rfl⟩ := List.mem_map.mp m2
    exact alike_lineD c1.2 c2.2
  · obtain ⟨x1, m1, rfl⟩ := List.mem_map.mp h1
    obtain ⟨c1, _, rfl⟩ := List.mem_map.mp m1
    exact ⟨_, _, rfl⟩
  · obtain ⟨c, hc, rfl⟩ := List.mem_map.mp hb
    show (lineD c.2).depth ≤ 40
    rw [depth_lineD]
    decide
theorem canon_mem {hs : List (Nat × Nat × Nat)} (F : FlatOk hs) {l : Nat × Nat} (h : l ∈ canon hs) : ∃ e ∈ hs, l = e.2 := by
  unfold canon at h
  obtain ⟨e, he, rfl⟩ := List.mem_map.mp h
  exact ⟨e, (byHead_perm F.red).mem_iff.mp he, rfl⟩
theorem canon_lt {hs : List (Nat × Nat × Nat)} (F : FlatOk hs) : ∀ l ∈ canon hs, l.1 < 2 ^ 63 ∧ l.2 < 2 := fun l h => by
  obtain ⟨e, he, rfl⟩ := canon_mem F h
  exact ⟨(F.red.own e he).2.1, F.bit e he⟩
theorem canon_snoc_lt {hs : List (Nat × Nat × Nat)} (F : FlatOk hs) {m b : Nat} (hm : m < 2 ^ 63) (hb : b < 2) : ∀ l ∈ canon hs ++ [(m, b)], l.1 < 2 ^ 63 ∧ l.2 < 2 := fun l h => by
  rcases List.mem_append.mp h with h | h
  · exact canon_lt F l h
  · have h : l = (m, b) := by simpa using h
    rw [h]; exact ⟨hm, hb⟩
theorem canon_len (hs : List (Nat × Nat × Nat)) : (canon hs).length ≤ 63 := by
  unfold canon byHead
  rw [List.length_map, List.length_map]
  have := List.length_filter_le (fun u => decide (u ∈ hs.map (·.1))) (List.range 63)
  simpa [srt] using this
theorem optFlat_same {K : PySem.W.Frag} {H H' : Hp} {v : V} {o : Option (List (Nat × Nat × Nat))} (s : Same H H') (h : OptFlat K H v o) : OptFlat K H' v o := by
  cases o with
  | none => exact h
  | some hs => exact FlatV.same s h
def rListK (K : PySem.W.Frag) : List V → Hp → VK → Prop := fun xs H Q => ∃ p ys, xs = [.ref p] ∧ (SqL K H p ys ∨ SqT K H p ys) ∧ ∀ (l : Addr), H l = none → Q (.ref l) (upd H l (.lst ys))
theorem canon_get {hs : List (Nat × Nat × Nat)} (F : FlatOk hs) {i : Nat} {l : Nat × Nat} (h : (canon hs)[i]? = some l) : ∃ e ∈ hs, l = e.2 ∧ (srt (hs.map (·.1)))[i]? = some e.1 := by
  unfold canon at h
  rw [List.getElem?_map] at h
  obtain ⟨e, he, rfl⟩ := Option.map_eq_some_iff.mp h
  refine ⟨e, (byHead_perm F.red).mem_iff.mp (List.mem_of_getElem? he), rfl, ?_⟩
  rw [← byHead_keys, List.getElem?_map, he]
  rfl
theorem canon_eq_len (hs : List (Nat × Nat × Nat)) : (canon hs).length = (srt (hs.map (·.1))).length := by
  unfold canon byHead
  rw [List.length_map, List.length_map]
theorem optFlat_but {K : PySem.W.Frag} {H H' : Hp} {b : Addr} {ys : List V} {v : V} {o : Option (List (Nat × Nat × Nat))} (hb : H b = some (.lst ys)) (s : But b H H') (h : OptFlat K H v o) : OptFlat K H' v o := by
  cases o with
  | none => exact h
  | some hs =>
    obtain ⟨t, us, rfl, h1, h2⟩ := h
    exact ⟨t, us, rfl, sqT_but hb s h1, lines_but hb s h2⟩
end Es
set_option Elab.async false
set_option linter.all false
set_option maxRecDepth 100000
set_option maxHeartbeats 4000000
namespace Es
open PySem PySem.Spec PyProof.Rows L2
def fS (n s : Nat) : Nat → Bool := fun u => decide (u < n) && s.testBit (n - 1 - u)
def holdsB (l : Nat × Nat) (f : Nat → Bool) : Bool := par l.1 f == decide (l.2 = 1)
theorem holdsB_iff {l : Nat × Nat} {f : Nat → Bool} : holdsB l f = true ↔ holdsL l f := by
  unfold holdsB holdsL
  exact beq_iff_eq
def BitsOf (N x : Nat) (p : Nat → Bool) : Prop := x < 2 ^ N ∧ ∀ s, s < N → x.testBit s = p s
theorem BitsOf.uniq {N x y : Nat} {p : Nat → Bool} (hx : BitsOf N x p) (hy : BitsOf N y p) : x = y := by
  refine Nat.eq_of_testBit_eq fun s => ?_
  by_cases h : s < N
  · rw [hx.2 s h, hy.2 s h]
  · rw [Nat.testBit_lt_two_pow (Nat.lt_of_lt_of_le hx.1 (Nat.pow_le_pow_right (by decide) (Nat.le_of_not_lt h))), Nat.testBit_lt_two_pow (Nat.lt_of_lt_of_le hy.1 (Nat.pow_le_pow_right (by decide) (Nat.le_of_not_lt h)))]
theorem BitsOf.congr {N x : Nat} {p q : Nat → Bool} (h : BitsOf N x p) (e : ∀ s, s < N → p s = q s) : BitsOf N x q := ⟨h.1, fun s hs => (h.2 s hs).trans (e s hs)⟩
theorem BitsOf.xor {N x y : Nat} {p q : Nat → Bool} (hx : BitsOf N x p) (hy : BitsOf N y q) : BitsOf N (x ^^^ y) (fun s => p s ^^ q s) :=
  ⟨Nat.xor_lt_two_pow hx.1 hy.1, fun s hs => by rw [Nat.testBit_xor, hx.2 s hs, hy.2 s hs]⟩
theorem BitsOf.and {N x y : Nat} {p q : Nat → Bool} (hx : BitsOf N x p) (hy : BitsOf N y q) : BitsOf N (x &&& y) (fun s => p s && q s) :=
  ⟨Nat.lt_of_le_of_lt Nat.and_le_left hx.1, fun s hs => by rw [Nat.testBit_and, hx.2 s hs, hy.2 s hs]⟩
theorem BitsOf.none (N : Nat) : BitsOf N 0 (fun _ => false) := ⟨Nat.two_pow_pos _, fun s _ => Nat.zero_testBit s⟩
theorem BitsOf.all (N : Nat) : BitsOf N (2 ^ N - 1) (fun _ => true) := ⟨by have := Nat.two_pow_pos N; omega, fun s hs => by rw [Nat.testBit_two_pow_sub_one, decide_eq_true hs]⟩
theorem BitsOf.pos {N x : Nat} {p : Nat → Bool} (h : BitsOf N x p) : 0 < x ↔ ∃ s, s < N ∧ p s = true := by
  constructor
  · intro h0
    refine Classical.byContradiction fun z => ?_
    have : x = 0 := h.uniq ((BitsOf.none N).congr fun s hs => by
      cases q : p s with
      | false => rfl
      | true => exact absurd ⟨s, hs, q⟩ z)
    omega
  · rintro ⟨s, hs, q⟩
    refine Nat.pos_of_ne_zero fun z => ?_
    have := h.2 s hs
    rw [z, Nat.zero_testBit, q] at this
    cases this
theorem and_nat (a b : Nat) : Builtin.bitAnd (a : Int) (b : Int) = ((a &&& b : Nat) : Int) := by
  rw [bitAnd_pp (Int.natCast_nonneg _) (Int.natCast_nonneg _)]
  rfl
theorem setting_num (n : Nat) (f : Nat → Bool) : ∃ s, s < 2 ^ n ∧ ∀ u, u < n → s.testBit (n - 1 - u) = f u := by
  induction n generalizing f with
  | zero => exact ⟨0, by decide, fun u hu => absurd hu (Nat.not_lt_zero u)⟩
  | succ n ih =>
    obtain ⟨s, h1, h2⟩ := ih fun u => f (u + 1)
    refine ⟨(if f 0 = true then 2 ^ n else 0) + s, ?_, fun u hu => ?_⟩
    · rw [Nat.pow_succ]
      split <;> omega
    · cases u with
      | zero =>
        rw [Nat.sub_zero, Nat.add_sub_cancel]
        cases q : f 0 with
        | true =>
          rw [if_pos rfl, Nat.testBit_two_pow_add_eq, Nat.testBit_lt_two_pow h1]
          rfl
        | false =>
          rw [if_neg Bool.false_ne_true, Nat.zero_add, Nat.testBit_lt_two_pow h1]
      | succ u =>
        have e : n + 1 - 1 - (u + 1) = n - 1 - u := by omega
        rw [e, ← h2 u (by omega)]
        split
        · exact Nat.testBit_two_pow_add_gt (by omega) s
        · rw [Nat.zero_add]
theorem par_congr {m n : Nat} (hm : m < 2 ^ n) {f g : Nat → Bool} (h : ∀ u, u < n → f u = g u) : par m f = par m g := by
  unfold par parL
  have go : ∀ (L : List Nat) (b : Bool), L.foldl (fun b u => b ^^ (m.testBit u && f u)) b = L.foldl (fun b u => b ^^ (m.testBit u && g u)) b := by
    intro L
    induction L with
    | nil => intro b; rfl
    | cons u L ih =>
      intro b
      rw [List.foldl_cons, List.foldl_cons]
      have : (m.testBit u && f u) = (m.testBit u && g u) := by
        by_cases hu : u < n
        · rw [h u hu]
        · rw [Nat.testBit_lt_two_pow (Nat.lt_of_lt_of_le hm (Nat.pow_le_pow_right (by decide) (Nat.le_of_not_lt hu)))]
          rfl
      rw [this]
      exact ih _
  exact go _ _
theorem holds_num {n : Nat} (f : Nat → Bool) : ∃ s, s < 2 ^ n ∧ ∀ l : Nat × Nat, l.1 < 2 ^ n → (holdsL l (fS n s) ↔ holdsL l f) := by
  obtain ⟨s, h1, h2⟩ := setting_num n f
  refine ⟨s, h1, fun l hl => ?_⟩
  unfold holdsL
  rw [par_congr hl (f := fS n s) (g := f) fun u hu => by unfold fS; rw [decide_eq_true hu, Bool.true_and, h2 u hu]]
theorem par_bts (m : Nat) (f : Nat → Bool) : par m f = (bts m).foldl (fun b u => b ^^ f u) false := by
  unfold par parL bts
  have go : ∀ (L : List Nat) (b : Bool), L.foldl (fun b u => b ^^ (m.testBit u && f u)) b = (L.filter fun u => m.testBit u).foldl (fun b u => b ^^ f u) b := by
    intro L
    induction L with
    | nil => intro b; rfl
    | cons u L ih =>
      intro b
      rw [List.foldl_cons, List.filter_cons]
      cases q : m.testBit u with
      | true => rw [if_pos rfl, List.foldl_cons, Bool.true_and]; exact ih _
      | false => rw [if_neg Bool.false_ne_true, Bool.false_and, Bool.xor_false]; exact ih _
  exact go _ _
theorem wsum_par (m : Nat) (bs : List Nat) (hb : ∀ b ∈ bs, b < 2) : holdsL (m, wsum m bs % 2) (fun u => decide (bs.getD u 0 = 1)) := by
  unfold holdsL
  rw [par_bts]
  unfold wsum
  show _ = decide (_ % 2 = 1)
  have b2 : ∀ u, bs.getD u 0 < 2 := fun u => by
    rw [List.getD_eq_getElem?_getD]
    cases q : bs[u]? with
    | none => decide
    | some b => exact hb b (List.mem_of_getElem? q)
  have go : ∀ (L : List Nat) (b : Bool) (x : Nat), b = decide (x % 2 = 1) → L.foldl (fun b u => b ^^ decide (bs.getD u 0 = 1)) b = decide ((x + (L.map fun u => bs.getD u 0).sum) % 2 = 1) := by
    intro L
    induction L with
    | nil => intro b x h; rw [h]; rfl
    | cons u L ih =>
      intro b x h
      rw [List.foldl_cons, List.map_cons, List.sum_cons, ← Nat.add_assoc]
      refine ih _ _ ?_
      rw [h]
      have hu := b2 u
      generalize bs.getD u 0 = y at hu ⊢
      have hy : y = 0 ∨ y = 1 := by omega
      rcases hy with rfl | rfl
      · simp
      · by_cases z : x % 2 = 1
        · have z2 : ¬ (x + 1) % 2 = 1 := by omega
          rw [decide_eq_true z, decide_eq_false z2]
          rfl
        · have z2 : (x + 1) % 2 = 1 := by omega
          rw [decide_eq_false z, decide_eq_true z2]
          rfl
  have := go (bts m) false 0 rfl
  rwa [Nat.zero_add] at this
def sp_law_told (K : PySem.W.Frag) : Sp := sp_told_on K
def sp_law_halves (K : PySem.W.Frag) : Sp := fun vs H Q _ => ∃ (v u : V) (hs : List (Nat × Nat × Nat)) (m : Nat), vs = [v, u] ∧ FlatV K H v hs ∧ FlatOk hs ∧ SumV K H u m ∧ m < 2 ^ 63 ∧
  ∀ H' p v0 v1, Same H H' → H p = none → H' p = some (.tup [v0, v1]) → OptFlat K H' v0 (lflat (canon hs ++ [(m, 0)])) → OptFlat K H' v1 (lflat (canon hs ++ [(m, 1)])) → Q (.ref p) H'
def sp_law_is_row (K : PySem.W.Frag) : Sp := fun vs H Q _ => ∃ (n m : Nat) (v : V), vs = [.int (n : Int), v] ∧ SumV K H v m ∧ m < 2 ^ n ∧ m ≠ 0 ∧ n ≤ 62 ∧ ∀ H', Same H H' → Q (.bl true) H'
def sp_law_is_line (K : PySem.W.Frag) : Sp := fun vs H Q _ => ∃ (n : Nat) (l : Nat × Nat) (v : V), vs = [.int (n : Int), v] ∧ LineV K H v l ∧ l.1 < 2 ^ n ∧ l.1 ≠ 0 ∧ l.2 < 2 ∧ n ≤ 62 ∧ ∀ H', Same H H' → Q (.bl true) H'
def sp_law_is_clause (K : PySem.W.Frag) : Sp := fun vs H Q _ => ∃ (n : Nat) (hs : List (Nat × Nat × Nat)) (v : V), vs = [.int (n : Int), v] ∧ FlatV K H v hs ∧ FlatOk hs ∧ (∀ e ∈ hs, e.2.1 < 2 ^ n) ∧ n ≤ 62 ∧ ∀ H', Same H H' → Q (.bl true) H'
def sp_law_is_flat (K : PySem.W.Frag) : Sp := sp_law_is_clause K
def sp_law_is_reduced (K : PySem.W.Frag) : Sp := fun vs H Q _ => ∃ (v u x : V) (hs : List (Nat × Nat × Nat)) (m : Nat), vs = [v, u, x] ∧ FlatV K H v hs ∧ FlatOk hs ∧ SumV K H u m ∧ m < 2 ^ 63 ∧ SumV K H x (wh hs (m, 0)).1 ∧ ∀ H', Same H H' → Q (.bl true) H'
def sp_law_drawn_flat (K : PySem.W.Frag) : Sp := fun vs H Q _ => ∃ (b c : Addr) (n k : Nat), vs = [.ref b, .int (n : Int), .int (k : Int)] ∧ BagAt K H b c ∧ n ≤ 62 ∧ k ≤ 100 ∧
  ∀ H' v hs, But b H H' → BagAt K H' b c → FlatV K H' v hs → FlatOk hs → (∀ e ∈ hs, e.2.1 < 2 ^ n) → Q v H'
def sp_law_drawn_sum (K : PySem.W.Frag) : Sp := fun vs H Q _ => ∃ (b c : Addr) (n : Nat) (v : V) (hs : List (Nat × Nat × Nat)), vs = [.ref b, .int (n : Int), v] ∧ BagAt K H b c ∧ n ≤ 62 ∧ FlatV K H v hs ∧ FlatOk hs ∧ (∀ e ∈ hs, e.2.1 < 2 ^ n) ∧
  ∀ H' u m, But b H H' → BagAt K H' b c → SumV K H' u m → m < 2 ^ n → Q u H'
def RoomV (K : PySem.W.Frag) (H : Hp) (v : V) (n : Nat) : Prop := ∃ t c cs, v = .ref t ∧ SqT K H t [.int (n : Int), .int ((2 ^ 2 ^ n - 1 : Nat) : Int), .ref c] ∧ SqT K H c (iv cs) ∧ cs.length = n ∧ ∀ u, u < n → BitsOf (2 ^ n) (cs.getD u 0) (fun s => fS n s u)
theorem RoomV.same {K : PySem.W.Frag} {H H' : Hp} {v : V} {n : Nat} (s : Same H H') (h : RoomV K H v n) : RoomV K H' v n := by
  obtain ⟨t, c, cs, rfl, h1, h2, h3⟩ := h
  exact ⟨t, c, cs, rfl, sqT_same s h1, sqT_same s h2, h3⟩
def sp_law_room (K : PySem.W.Frag) : Sp := fun vs H Q _ => ∃ (n : Nat), vs = [.int (n : Int)] ∧ n ≤ 7 ∧ ∀ H' v, Same H H' → RoomV K H' v n → Q v H'
def sp_law_held (K : PySem.W.Frag) : Sp := fun vs H Q _ => ∃ (v u : V) (n : Nat) (l : Nat × Nat), vs = [v, u] ∧ RoomV K H v n ∧ n ≤ 7 ∧ LineV K H u l ∧ l.1 < 2 ^ n ∧ l.2 < 2 ∧
  ∀ x, BitsOf (2 ^ n) x (fun s => holdsB l (fS n s)) → Q (.int (x : Int)) H
def sp_law_in (K : PySem.W.Frag) : Sp := fun vs H Q _ => ∃ (v : V) (t : Addr) (us : List V) (n : Nat) (ls : List (Nat × Nat)), vs = [v, .ref t] ∧ RoomV K H v n ∧ n ≤ 7 ∧ SqT K H t us ∧ Paired (LineV K H) us ls ∧ (∀ l ∈ ls, l.1 < 2 ^ n ∧ l.2 < 2) ∧
  ∀ x, BitsOf (2 ^ n) x (fun s => ls.all fun l => holdsB l (fS n s)) → Q (.int (x : Int)) H
def sp_law_worthL (K : PySem.W.Frag) : Sp := fun vs H Q _ => ∃ (v : V) (b : Addr) (m : Nat) (bs : List Nat), vs = [v, .ref b] ∧ SumV K H v m ∧ SqL K H b (iv bs) ∧ (∀ u ∈ bts m, u < bs.length) ∧
  ∀ H', Same H H' → Q (.int ((wsum m bs % 2 : Nat) : Int)) H'
theorem nice_line {l : Nat × Nat} (h : l.2 < 2) : nice (lineD l) = true := by
  refine niceAll_iff.mpr fun x hx => ?_
  rcases List.mem_cons.mp hx with rfl | hx
  · exact nice_sumD _
  · rcases List.mem_cons.mp hx with rfl | hx
    · refine decide_eq_true ?_
      show l.2 < 10 ^ 12
      exact Nat.lt_trans h (by decide)
    · cases hx
theorem shaped_line {l : Nat × Nat} (h : l.2 < 2) : SeqAt.shaped (lineD l) = true := nice_shaped (nice_line h) (by rw [depth_lineD]; decide)
theorem eqv_line {l : Nat × Nat} (h : l.2 < 2) : PyData.eqv (lineD l) (lineD l) = true := SeqAt.eqv_refl _ (nice_facts _ (nice_line h)).1
theorem all_canon {hs : List (Nat × Nat × Nat)} (F : FlatOk hs) (f : Nat → Bool) : ((canon hs).all fun l => holdsB l f) = true ↔ sol hs f := by
  rw [List.all_eq_true]
  constructor
  · intro h e he
    refine holdsB_iff.mp (h e.2 ?_)
    unfold canon
    exact List.mem_map.mpr ⟨e, (byHead_perm F.red).mem_iff.mpr he, rfl⟩
  · intro h l hl
    obtain ⟨e, he, rfl⟩ := canon_mem F hl
    exact holdsB_iff.mpr (h e he)
theorem half_is {hs : List (Nat × Nat × Nat)} (F : FlatOk hs) {n m b : Nat} (hn : n ≤ 62) (hlt : ∀ e ∈ hs, e.2.1 < 2 ^ n) (hm : m < 2 ^ n) (hb : b < 2) (nz : (wh hs (m, 0)).1 ≠ 0) :
    ∃ gs, lflat (canon hs ++ [(m, b)]) = some gs ∧ FlatOk gs ∧ (∀ e ∈ gs, e.2.1 < 2 ^ n) ∧ ∀ f, sol gs f ↔ sol hs f ∧ holdsL (m, b) f := by
  have m63 : m < 2 ^ 63 := Nat.lt_of_lt_of_le hm (Nat.pow_le_pow_right (by decide) (by omega))
  have lt1 := canon_snoc_lt F m63 hb
  have lt2 : ∀ l ∈ canon hs ++ [(m, b)], l.1 < 2 ^ n ∧ l.2 < 2 := fun l hl => by
    refine ⟨?_, (lt1 l hl).2⟩
    rcases List.mem_append.mp hl with hl | hl
    · obtain ⟨e, he, rfl⟩ := canon_mem F hl
      exact hlt e he
    · have hl : l = (m, b) := by simpa using hl
      rw [hl]; exact hm
  have both : ∀ f, (∀ l ∈ canon hs ++ [(m, b)], holdsL l f) ↔ sol hs f ∧ holdsL (m, b) f := fun f => by
    rw [← all_canon F f, List.all_eq_true]
    constructor
    · exact fun h => ⟨fun l hl => holdsB_iff.mpr (h l (List.mem_append_left _ hl)), h _ (List.mem_append_right _ List.mem_cons_self)⟩
    · rintro ⟨h1, h2⟩ l hl
      rcases List.mem_append.mp hl with hl | hl
      · exact holdsB_iff.mp (h1 l hl)
      · have hl : l = (m, b) := by simpa using hl
        rw [hl]; exact h2
  obtain ⟨a1, a2⟩ := lflat_sol (canon hs ++ [(m, b)]) lt1
  cases q : lflat (canon hs ++ [(m, b)]) with
  | none =>
    obtain ⟨f, s1, s2⟩ := flat_free F (l := (m, b)) m63 hb (by rw [← (wh_row hs m 0 b).1]; exact nz)
    exact absurd ((both f).mpr ⟨s1, s2⟩) (a2 q f)
  | some gs => exact ⟨gs, rfl, lflat_flat _ lt1 gs q, lflat_lt (by omega) _ lt2 gs q, fun f => (a1 gs q f).trans (both f)⟩
def sp_law_are_halves (K : PySem.W.Frag) : Sp := fun vs H Q _ => ∃ (v w u : V) (p : Addr) (v0 v1 : V) (n : Nat) (hs : List (Nat × Nat × Nat)) (m : Nat), vs = [v, w, u, .ref p] ∧ RoomV K H v n ∧ n ≤ 7 ∧ FlatV K H w hs ∧ FlatOk hs ∧ (∀ e ∈ hs, e.2.1 < 2 ^ n) ∧ SumV K H u m ∧ m < 2 ^ n ∧
  (wh hs (m, 0)).1 ≠ 0 ∧ SqT K H p [v0, v1] ∧ OptFlat K H v0 (lflat (canon hs ++ [(m, 0)])) ∧ OptFlat K H v1 (lflat (canon hs ++ [(m, 1)])) ∧ ∀ H', Same H H' → Q (.bl true) H'
def sp_law_is_told_right (K : PySem.W.Frag) : Sp := fun vs H Q _ => ∃ (v w u : V) (n : Nat) (hs : List (Nat × Nat × Nat)) (m : Nat), vs = [v, w, u] ∧ RoomV K H v n ∧ n ≤ 7 ∧ FlatV K H w hs ∧ FlatOk hs ∧ (∀ e ∈ hs, e.2.1 < 2 ^ n) ∧ SumV K H u m ∧ m < 2 ^ n ∧ ∀ H', Same H H' → Q (.bl true) H'
theorem canon_below {hs : List (Nat × Nat × Nat)} (F : FlatOk hs) {n : Nat} (hlt : ∀ e ∈ hs, e.2.1 < 2 ^ n) : ∀ l ∈ canon hs, l.1 < 2 ^ n ∧ l.2 < 2 := fun l hl => by
  obtain ⟨e, he, rfl⟩ := canon_mem F hl
  exact ⟨hlt e he, F.bit e he⟩
def col (P : Nat) : Nat → Nat
  | 0 => 0
  | k + 1 => col P k ||| (((2 ^ 2 ^ P - 1) * 2 ^ 2 ^ P) * 2 ^ (2 * 2 ^ P * k))
theorem col_bit (P k s : Nat) : (col P k).testBit s = (decide (s < 2 * 2 ^ P * k) && s.testBit P) := by
  have w0 : 0 < 2 ^ P := Nat.two_pow_pos P
  have eb : s.testBit P = decide (s / 2 ^ P % 2 = 1) := Nat.testBit_eq_decide_div_mod_eq
  induction k with
  | zero =>
    unfold col
    rw [Nat.zero_testBit, Nat.mul_zero, decide_eq_false (Nat.not_lt_zero s)]
    rfl
  | succ k ih =>
    unfold col
    rw [Nat.testBit_or, ih, Nat.testBit_mul_two_pow, Nat.testBit_mul_two_pow, Nat.testBit_two_pow_sub_one, eb]
    generalize 2 ^ P = w at w0
    have e1 : 2 * w * (k + 1) = 2 * w * k + 2 * w := by rw [Nat.mul_add, Nat.mul_one]
    rw [e1]
    by_cases h1 : s < 2 * w * k
    · rw [decide_eq_true h1, decide_eq_false (show ¬ 2 * w * k ≤ s by omega), decide_eq_true (show s < 2 * w * k + 2 * w by omega)]
      simp
    · obtain ⟨t, rfl⟩ : ∃ t, s = 2 * w * k + t := ⟨s - 2 * w * k, by omega⟩
      rw [decide_eq_false h1, decide_eq_true (show 2 * w * k ≤ 2 * w * k + t by omega)]
      have e2 : 2 * w * k + t - 2 * w * k = t := by omega
      have e3 : (2 * w * k + t) / w = 2 * k + t / w := by
        rw [show 2 * w * k = w * (2 * k) by rw [Nat.mul_comm 2 w, Nat.mul_assoc], Nat.mul_add_div w0]
      rw [e2, e3]
      by_cases h2 : t < 2 * w
      · rw [decide_eq_true (show 2 * w * k + t < 2 * w * k + 2 * w by omega)]
        by_cases h3 : w ≤ t
        · have e4 : t / w = 1 := Nat.div_eq_of_lt_le (by omega) (by omega)
          rw [e4, decide_eq_true h3, decide_eq_true (show t - w < w by omega), decide_eq_true (show (2 * k + 1) % 2 = 1 by omega)]
          rfl
        · have e4 : t / w = 0 := Nat.div_eq_of_lt (by omega)
          rw [e4, decide_eq_false h3, decide_eq_false (show ¬ (2 * k + 0) % 2 = 1 by omega)]
          rfl
      · rw [decide_eq_false (show ¬ 2 * w * k + t < 2 * w * k + 2 * w by omega), decide_eq_false (show ¬ t - w < w by omega)]
        simp
theorem col_lt (P k : Nat) : col P k < 2 ^ (2 * 2 ^ P * k) := by
  refine Nat.lt_pow_two_of_testBit _ fun s hs => ?_
  rw [col_bit, decide_eq_false (by omega)]
  rfl
theorem col_is {n u : Nat} (hu : u < n) : BitsOf (2 ^ n) (col (n - 1 - u) (2 ^ u)) (fun s => fS n s u) := by
  have e : 2 * 2 ^ (n - 1 - u) * 2 ^ u = 2 ^ n := by
    rw [Nat.mul_comm 2, ← Nat.pow_succ, ← Nat.pow_add]
    congr 1
    omega
  refine ⟨by have := col_lt (n - 1 - u) (2 ^ u); rwa [e] at this, fun s hs => ?_⟩
  rw [col_bit, e]
  unfold fS
  rw [decide_eq_true hs, decide_eq_true hu]
def canB (hs : List (Nat × Nat × Nat)) (m b : Nat) : Bool := if (wh hs (m, 0)).1 = 0 then decide ((wh hs (m, 0)).2 = b) else true
theorem worth_can {hs : List (Nat × Nat × Nat)} (F : FlatOk hs) {n m b sx z : Nat} (hn : n ≤ 62) (hlt : ∀ e ∈ hs, e.2.1 < 2 ^ n) (hm : m < 2 ^ n) (hb : b < 2)
    (hsx : BitsOf (2 ^ n) sx (fun s => (canon hs).all fun l => holdsB l (fS n s))) (hz : BitsOf (2 ^ n) z (fun s => holdsB (m, b) (fS n s))) : 0 < sx &&& z ↔ canB hs m b = true := by
  have m63 : m < 2 ^ 63 := Nat.lt_of_lt_of_le hm (Nat.pow_le_pow_right (by decide) (by omega))
  have r2 := wh_bit F.bit (m, 0) (by show 0 < 2; decide)
  have some_ : (0 < sx &&& z) ↔ ∃ f, sol hs f ∧ holdsL (m, b) f := by
    rw [(hsx.and hz).pos]
    constructor
    · rintro ⟨s, _, h⟩
      rw [Bool.and_eq_true, all_canon F, holdsB_iff] at h
      exact ⟨_, h⟩
    · rintro ⟨f, h1, h2⟩
      obtain ⟨s, hs1, hs2⟩ := holds_num (n := n) f
      refine ⟨s, hs1, ?_⟩
      rw [Bool.and_eq_true, all_canon F, holdsB_iff]
      exact ⟨fun e he => (hs2 e.2 (hlt e he)).mpr (h1 e he), (hs2 (m, b) hm).mpr h2⟩
  rw [some_]
  obtain ⟨w1, w2⟩ := wh_row hs m 0 b
  rw [Nat.xor_zero] at w2
  unfold canB
  by_cases zz : (wh hs (m, 0)).1 = 0
  · rw [if_pos zz, decide_eq_true_eq]
    have key : ∀ f, sol hs f → (holdsL (m, b) f ↔ (wh hs (m, 0)).2 = b) := fun f s => by
      rw [flat_told F (l := (m, b)) hb (by rw [← w1]; exact zz) s, ← w2]
      have h1 : (wh hs (m, 0)).2 = 0 ∨ (wh hs (m, 0)).2 = 1 := by omega
      have h2 : b = 0 ∨ b = 1 := by omega
      rcases h1 with h1 | h1 <;> rcases h2 with h2 | h2 <;> rw [h1, h2] <;> decide
    constructor
    · rintro ⟨f, s, h⟩
      exact (key f s).mp h
    · intro h
      obtain ⟨f, s⟩ := flat_has F
      exact ⟨f, s, (key f s).mpr h⟩
  · rw [if_neg zz]
    exact ⟨fun _ => rfl, fun _ => flat_free F (l := (m, b)) m63 hb (by rw [← w1]; exact zz)⟩
def flatD (hs : List (Nat × Nat × Nat)) : PyData := .tuple ((canon hs).map lineD)
theorem dp_lines {K : PySem.W.Frag} {H : Hp} : ∀ {us : List V} {ls : List (Nat × Nat)}, Paired (LineV K H) us ls → DpAll K H us (ls.map lineD)
  | _, _, .nil => .nil
  | _, _, .cons h t => .cons (dp_line h) (dp_lines t)
theorem dp_flat {K : PySem.W.Frag} {H : Hp} {v : V} {hs : List (Nat × Nat × Nat)} (h : FlatV K H v hs) : Dp K H v (flatD hs) := by
  obtain ⟨t, us, rfl, h1, h2⟩ := h
  exact .tup h1 (dp_lines h2)
theorem weight_line {l : Nat × Nat} (h : l.2 < 2) : (lineD l).weight ≤ 444 := by
  have w1 := weight_sumD l.1
  have w2 : PyData.weight (.int (l.2 : Int)) ≤ 1 := weight_int (show l.2 < 2 ^ 1 by omega)
  show (sumD l.1).weight + 1 + (PyData.weight (.int (l.2 : Int)) + 1 + 0) ≤ 444
  omega
theorem weight_lines : ∀ {ls : List (Nat × Nat)}, (∀ l ∈ ls, l.2 < 2) → PyData.weightAll (ls.map lineD) ≤ 445 * ls.length
  | [], _ => Nat.zero_le _
  | l :: ls, h => by
    have w1 := weight_line (h l List.mem_cons_self)
    have w2 := weight_lines fun x hx => h x (List.mem_cons_of_mem _ hx)
    show (lineD l).weight + 1 + PyData.weightAll (ls.map lineD) ≤ _
    rw [List.length_cons]
    omega
theorem depth_lines : ∀ ls : List (Nat × Nat), PyData.depthAll (ls.map lineD) ≤ 2
  | [] => Nat.zero_le _
  | l :: ls => by
    show max (lineD l).depth (PyData.depthAll (ls.map lineD)) ≤ 2
    rw [depth_lineD]
    exact Nat.max_le.mpr ⟨Nat.le_refl _, depth_lines ls⟩
theorem flatD_facts {hs : List (Nat × Nat × Nat)} (F : FlatOk hs) : nice (flatD hs) = true ∧ (flatD hs).depth ≤ 3 ∧ (flatD hs).weight ≤ 30000 := by
  refine ⟨?_, ?_, ?_⟩
  · refine niceAll_iff.mpr fun x hx => ?_
    obtain ⟨l, hl, rfl⟩ := List.mem_map.mp hx
    exact nice_line (canon_lt F l hl).2
  · show PyData.depthAll _ + 1 ≤ 3
    have := depth_lines (canon hs)
    omega
  · have w := weight_lines (ls := canon hs) fun l hl => (canon_lt F l hl).2
    have := canon_len hs
    show PyData.weightAll _ ≤ 30000
    omega
theorem pairFD_facts {hs : List (Nat × Nat × Nat)} (F : FlatOk hs) (m : Nat) : nice (.list [flatD hs, sumD m]) = true ∧ (PyData.list [flatD hs, sumD m]).depth ≤ 40 ∧ (PyData.list [flatD hs, sumD m]).weight ≤ 2 ^ 20 := by
  obtain ⟨f1, f2, f3⟩ := flatD_facts F
  refine ⟨?_, ?_, ?_⟩
  · refine niceAll_iff.mpr fun x hx => ?_
    rcases List.mem_cons.mp hx with rfl | hx
    · exact f1
    · rcases List.mem_cons.mp hx with rfl | hx
      · exact nice_sumD m
      · cases hx
  · show max (flatD hs).depth (max (sumD m).depth 0) + 1 ≤ 40
    rw [depth_sumD]
    have := Nat.max_le.mpr ⟨f2, (show max 1 0 ≤ 3 by decide)⟩
    omega
  · have w := weight_sumD m
    show (flatD hs).weight + 1 + ((sumD m).weight + 1 + 0) ≤ 2 ^ 20
    omega
def toldD (hs : List (Nat × Nat × Nat)) (m : Nat) : PyData := if (wh hs (m, 0)).1 = 0 then .int ((wh hs (m, 0)).2 : Int) else .none
theorem FlatV.bag {K : PySem.W.Frag} {H H' : Hp} {b c : Addr} {v : V} {hs : List (Nat × Nat × Nat)} (B : BagAt K H b c) (s : But b H H') (h : FlatV K H v hs) : FlatV K H' v hs := by
  obtain ⟨y, e⟩ := B.lst
  obtain ⟨t, us, rfl, h1, h2⟩ := h
  exact ⟨t, us, rfl, sqT_but e s h1, lines_but e s h2⟩
theorem RoomV.bag {K : PySem.W.Frag} {H H' : Hp} {b c : Addr} {v : V} {n : Nat} (B : BagAt K H b c) (s : But b H H') (h : RoomV K H v n) : RoomV K H' v n := by
  obtain ⟨y, e⟩ := B.lst
  obtain ⟨t, d, cs, rfl, h1, h2, h3⟩ := h
  exact ⟨t, d, cs, rfl, sqT_but e s h1, sqT_but e s h2, h3⟩
theorem dp_told {K : PySem.W.Frag} {H : Hp} (hs : List (Nat × Nat × Nat)) (m : Nat) : Dp K H (toldV hs m) (toldD hs m) := by
  unfold toldV toldD
  split
  · exact .int _
  · exact .non
theorem toldD_facts {hs : List (Nat × Nat × Nat)} (F : FlatOk hs) (m : Nat) : nice (toldD hs m) = true ∧ (toldD hs m).depth ≤ 40 ∧ (toldD hs m).weight ≤ 2 ^ 20 := by
  have r2 := wh_bit F.bit (m, 0) (by show 0 < 2; decide)
  unfold toldD
  split
  · refine ⟨?_, Nat.zero_le _, Nat.le_trans (weight_int (k := 1) (by show (wh hs (m, 0)).2 < 2 ^ 1; omega)) (by decide)⟩
    show decide _ = true
    exact decide_eq_true (Nat.lt_of_lt_of_le r2 (by decide))
  · exact ⟨rfl, Nat.zero_le _, Nat.zero_le _⟩
def optFD : Option (List (Nat × Nat × Nat)) → PyData
  | none => .none
  | some hs => flatD hs
theorem dp_optF {K : PySem.W.Frag} {H : Hp} {v : V} {o : Option (List (Nat × Nat × Nat))} (h : OptFlat K H v o) : Dp K H v (optFD o) := by
  cases o with
  | none =>
    have h : v = .non := h
    subst h
    exact .non
  | some hs => exact dp_flat h
theorem optFD_facts {ls : List (Nat × Nat)} (hl : ∀ l ∈ ls, l.1 < 2 ^ 63 ∧ l.2 < 2) : nice (optFD (lflat ls)) = true ∧ (optFD (lflat ls)).depth ≤ 3 ∧ (optFD (lflat ls)).weight ≤ 30000 := by
  cases q : lflat ls with
  | none => exact ⟨rfl, Nat.zero_le _, Nat.zero_le _⟩
  | some hs => exact flatD_facts (lflat_flat ls hl hs q)
theorem pairOF_facts {ls ks : List (Nat × Nat)} (hl : ∀ l ∈ ls, l.1 < 2 ^ 63 ∧ l.2 < 2) (hk : ∀ l ∈ ks, l.1 < 2 ^ 63 ∧ l.2 < 2) :
    nice (.tuple [optFD (lflat ls), optFD (lflat ks)]) = true ∧ (PyData.tuple [optFD (lflat ls), optFD (lflat ks)]).depth ≤ 40 ∧ (PyData.tuple [optFD (lflat ls), optFD (lflat ks)]).weight ≤ 2 ^ 20 := by
  obtain ⟨a1, a2, a3⟩ := optFD_facts hl
  obtain ⟨b1, b2, b3⟩ := optFD_facts hk
  refine ⟨?_, ?_, ?_⟩
  · refine niceAll_iff.mpr fun x hx => ?_
    rcases List.mem_cons.mp hx with rfl | hx
    · exact a1
    · rcases List.mem_cons.mp hx with rfl | hx
      · exact b1
      · cases hx
  · show max _ (max _ 0) + 1 ≤ 40
    have := Nat.max_le.mpr ⟨a2, Nat.max_le.mpr ⟨b2, Nat.zero_le 3⟩⟩
    omega
  · show (optFD (lflat ls)).weight + 1 + ((optFD (lflat ks)).weight + 1 + 0) ≤ 2 ^ 20
    omega
end Es
set_option Elab.async false
set_option linter.all false
set_option maxRecDepth 100000
set_option maxHeartbeats 4000000
namespace Es
open PySem PySem.Spec PyProof.Rows L2
section
variable {P : Program} {w : World}
mutual
def num : NestedKey → Bool
  | .none => false
  | .num _ => true
  | .text _ => false
  | .tup ks => nums ks
def nums : List NestedKey → Bool
  | [] => true
  | k :: ks => num k && nums ks
end
def Says (P : Program) (w : World) (m : Sem Bool) (b : Bool) (s : Shared) : Prop := ∀ (A : Around) (E : Value → Shared → Prop) (Q : Bool → Shared → Prop), Q b s → wpAny (model P w) A m Q E s
theorem Says.now {m : Sem Bool} {b : Bool} {s : Shared} (e : m = pure b) : Says P w m b s := fun A E Q h => by
  rw [e]
  exact wpAny_pure h
theorem Says.stmt_tuple {n : Nat} {s : Shared} {a : Addr} {o : Obj} {vs : Array Value} {m : Nat} (ho : s.heap.get? a = some o) (hc : o.cls = .type "tuple") (hd : o.data = .seq vs m)
    (hq : ∀ v ∈ vs.toList, Says P w (ofAClassStatement n v) false s) : Says P w (ofAClassStatement (n + 1) (.ref a)) false s := fun A E Q h => by
  unfold ofAClassStatement
  refine wpAny_bind (wpAny_typeOf (T := "tuple") ⟨o, ho, hc⟩ ?_)
  dsimp only
  simp only [show (("tuple" : String) == "tuple") = true from by decide, if_true]
  try refine wpAny_bind (wpAny_pure ?_)
  try simp only [Bool.not_true, Bool.false_eq_true, if_false]
  show wpAny _ _ (seqItems? (.ref a) >>= _) _ _ s
  refine wpAny_bind (wpAny_seqItems ho hd ?_)
  dsimp only
  refine wpAny_bind ?_
  show wpAny _ _ (forIn vs _ _) _ _ s
  rw [← Array.forIn_toList]
  refine wpAny_forIn_list _ (fun left r u => (r.1 = none ∧ u = s) ∧ ∀ v ∈ left, Says P w (ofAClassStatement n v) false s) _ ?_ ?_ _ _ ⟨⟨rfl, rfl⟩, hq⟩
  · rintro v left r u ⟨⟨hr, rfl⟩, hall⟩
    refine wpAny_bind (hall v List.mem_cons_self _ _ _ ?_)
    simp only [Bool.false_eq_true, if_false]
    exact wpAny_pure ⟨⟨rfl, rfl⟩, fun x hx => hall x (List.mem_cons_of_mem _ hx)⟩
  · rintro ⟨r1, r2⟩ u ⟨⟨hr, rfl⟩, _⟩
    have hr : r1 = none := hr
    subst hr
    exact wpAny_pure h
theorem Says.hash_tuple {n : Nat} {s : Shared} {a : Addr} {o : Obj} {vs : Array Value} {m : Nat} (ho : s.heap.get? a = some o) (hc : o.cls = .type "tuple") (hd : o.data = .seq vs m)
    (hq : ∀ v ∈ vs.toList, Says P w (hashByValue n v) true s) : Says P w (hashByValue (n + 1) (.ref a)) true s := fun A E Q h => by
  unfold hashByValue
  refine wpAny_bind (wpAny_specialOf (T := "tuple") ⟨o, ho, hc⟩ PySem.F.slot_tuple_hash.lookup ?_)
  show wpAny _ _ (seqItems? (.ref a) >>= _) _ _ s
  refine wpAny_bind (wpAny_seqItems ho hd ?_)
  refine wpAny_bind ?_
  show wpAny _ _ (forIn vs _ _) _ _ s
  rw [← Array.forIn_toList]
  refine wpAny_forIn_list _ (fun left r u => (r.1 = none ∧ u = s) ∧ ∀ v ∈ left, Says P w (hashByValue n v) true s) _ ?_ ?_ _ _ ⟨⟨rfl, rfl⟩, hq⟩
  · rintro v left r u ⟨⟨hr, rfl⟩, hall⟩
    refine wpAny_bind (hall v List.mem_cons_self _ _ _ ?_)
    simp only [Bool.not_true, Bool.false_eq_true, if_false]
    exact wpAny_pure ⟨⟨rfl, rfl⟩, fun x hx => hall x (List.mem_cons_of_mem _ hx)⟩
  · rintro ⟨r1, r2⟩ u ⟨⟨hr, rfl⟩, _⟩
    have hr : r1 = none := hr
    subst hr
    exact wpAny_pure h
mutual
theorem stmt_key : ∀ (k : NestedKey) (v : Value) (n : Nat) (s : Shared), NestedIs s.heap k v → k.depth ≤ n → Says P w (ofAClassStatement n v) false s
  | .none, _, n, s, x, _ => by cases x; exact .now (by cases n <;> rfl)
  | .num i, _, n, s, x, _ => by cases x <;> exact .now (by cases n <;> rfl)
  | .text y, _, n, s, x, _ => by cases x; exact .now (by cases n <;> rfl)
  | .tup ks, _, n, s, x, hn => by
    cases x with
    | tup h1 h2 h3 h4 =>
      rw [NestedKey.depth] at hn
      obtain ⟨n, rfl⟩ : ∃ m, n = m + 1 := ⟨n - 1, by omega⟩
      exact .stmt_tuple h1 h2 h3 (stmt_keys ks _ n s h4 (by omega))
theorem stmt_keys : ∀ (ks : List NestedKey) (vs : List Value) (n : Nat) (s : Shared), NestedAll s.heap ks vs → NestedKey.depthAll ks ≤ n → ∀ v ∈ vs, Says P w (ofAClassStatement n v) false s
  | [], _, n, s, x, _, v, hv => by cases x; cases hv
  | k :: ks, _, n, s, x, hn, v, hv => by
    cases x with
    | cons x1 x2 =>
      rw [NestedKey.depthAll] at hn
      rcases List.mem_cons.mp hv with e | hv
      · subst e; exact stmt_key k _ n s x1 (by omega)
      · exact stmt_keys ks _ n s x2 (by omega) v hv
end
mutual
theorem hash_key : ∀ (k : NestedKey) (v : Value) (n : Nat) (s : Shared), NestedIs s.heap k v → k.depth ≤ n → num k = true → Says P w (hashByValue n v) true s
  | .none, _, n, s, x, _, h => by simp [num] at h
  | .num i, _, n, s, x, _, _ => by cases x <;> exact .now (by cases n <;> rfl)
  | .text y, _, n, s, x, _, h => by simp [num] at h
  | .tup ks, _, n, s, x, hn, h => by
    cases x with
    | tup h1 h2 h3 h4 =>
      rw [NestedKey.depth] at hn
      rw [num] at h
      obtain ⟨n, rfl⟩ : ∃ m, n = m + 1 := ⟨n - 1, by omega⟩
      exact .hash_tuple h1 h2 h3 (hash_keys ks _ n s h4 (by omega) h)
theorem hash_keys : ∀ (ks : List NestedKey) (vs : List Value) (n : Nat) (s : Shared), NestedAll s.heap ks vs → NestedKey.depthAll ks ≤ n → nums ks = true → ∀ v ∈ vs, Says P w (hashByValue n v) true s
  | [], _, n, s, x, _, _, v, hv => by cases x; cases hv
  | k :: ks, _, n, s, x, hn, h, v, hv => by
    cases x with
    | cons x1 x2 =>
      rw [NestedKey.depthAll] at hn
      rw [nums, Bool.and_eq_true] at h
      rcases List.mem_cons.mp hv with e | hv
      · subst e; exact hash_key k _ n s x1 (by omega) h.1
      · exact hash_keys ks _ n s x2 (by omega) h.2 v hv
end
def numKind (P : Program) (w : World) : HeapKind P w NestedKey where
  is := fun h k a => NestedIs h k (.ref a) ∧ k.depth ≤ 8 ∧ num k = true
  hash := fun k => k.hash w
  draws := fun k => k.draws
  room := fun A => A.units + 8 < cLine
  inj := fun hx hy => NestedIs.inj _ _ _ hx.1 hy.1
  keeps := fun x ho hd hs => by
    have y := (nestedKind P w).keeps ⟨x.1, x.2.1⟩ ho hd hs
    exact ⟨y.1, y.2, x.2.2⟩
  pyHash := fun hu hk h => (nestedKind P w).pyHash hu ⟨hk.1, hk.2.1⟩ h
  eqBool := fun hu hx hy h => (nestedKind P w).eqBool hu ⟨hx.1, hx.2.1⟩ ⟨hy.1, hy.2.1⟩ h
  quiet := fun hk h => (nestedKind P w).quiet ⟨hk.1, hk.2.1⟩ h
structure Mute {κ : Type} [DecidableEq κ] (G : HeapKind P w κ) : Prop where
  st : ∀ {h h' : Heap} {k : κ} {a : Addr}, (∀ b o vs m, h.get? b = some o → o.data = .seq vs m → h'.get? b = some o) → G.is h k a → G.is h' k a
  own : ∀ {s : Shared} {k : κ} {a : Addr}, G.is s.heap k a → Says P w (ofAClassStatement 8 (.ref a)) false s
  val : ∀ {s : Shared} {k : κ} {a : Addr}, G.is s.heap k a → Says P w (hashByValue 8 (.ref a)) true s
theorem num_mute : Mute (numKind P w) where
  st := fun hk x => ⟨NestedIs.at hk _ _ x.1, x.2⟩
  own := fun x => stmt_key _ _ 8 _ x.1 x.2.1
  val := fun x => hash_key _ _ 8 _ x.1 x.2.1 x.2.2
end
section
variable {P : Program} {w : World} {κ : Type} [DecidableEq κ] {G : HeapKind P w κ} {A : Around} {E : Value → Shared → Prop} {s : Shared}
abbrev stp (m : Nat) (h : Int) (c : Nat) : SetTable.Probe := nth m (runAt m (SetTable.bits h % (m + 1)) (SetTable.bits h)) c
theorem stp_add (m : Nat) (h : Int) (c d : Nat) : nth m (stp m h c) d = stp m h (c + d) := (nth_add m c _ d).symm
theorem stp_clean (m : Nat) (h : Int) (c : Nat) : (stp m h c).dummy = none := by
  have go : ∀ (c : Nat) (p : SetTable.Probe), p.dummy = none → (nth m p c).dummy = none := by
    intro c
    induction c with
    | zero => exact fun p e => e
    | succ c ih =>
      intro p e
      refine ih (adv m p) ?_
      unfold adv
      split <;> exact e
  exact go c _ rfl
theorem seen_not (M : Mute G) {k : κ} {b : Addr} (hk : G.is s.heap k b) {ys : List Value} (hy : ∀ y ∈ ys, ∃ k' c, y = Value.ref c ∧ G.is s.heap k' c) : Says P w (searchCouldBeSeen (.ref b) ys) false s := fun A E Q h => by
  unfold searchCouldBeSeen
  refine wpAny_bind ?_
  refine wpAny_forIn_list _ (fun left r u => (r.1 = none ∧ u = s) ∧ ∀ y ∈ left, ∃ k' c, y = Value.ref c ∧ G.is s.heap k' c) _ ?_ ?_ _ _ ⟨⟨rfl, rfl⟩, hy⟩
  · rintro v left r u ⟨⟨hr, rfl⟩, hall⟩
    obtain ⟨k', c, rfl, hc⟩ := hall v List.mem_cons_self
    have more : ∀ y ∈ left, ∃ k' c, y = Value.ref c ∧ G.is u.heap k' c := fun y hy => hall y (List.mem_cons_of_mem _ hy)
    dsimp only
    by_cases z : (b == c || (carriedByValue (.ref b) && carriedByValue (.ref c))) = true
    · exact wp_if_pos z (wpAny_pure ⟨⟨rfl, rfl⟩, more⟩)
    · refine wp_if_neg z (wpAny_bind (G.quiet hk ?_))
      simp only [Bool.not_true, Bool.false_eq_true, if_false]
      refine wpAny_bind (G.quiet hc ?_)
      simp only [Bool.not_true, Bool.false_eq_true, if_false]
      refine wpAny_bind (M.own hk _ _ _ ?_)
      simp only [Bool.false_eq_true, if_false]
      refine wpAny_bind (M.own hc _ _ _ ?_)
      simp only [Bool.false_eq_true, if_false]
      exact wpAny_pure ⟨⟨rfl, rfl⟩, more⟩
  · rintro ⟨r1, r2⟩ u ⟨⟨hr, rfl⟩, _⟩
    have hr : r1 = none := hr
    subst hr
    exact wpAny_pure h
def ents (G : HeapKind P w κ) (L : List (Addr × κ)) : List (Int × Value) := L.map fun e => (G.hash e.2, Value.ref e.1)
def hashs (G : HeapKind P w κ) (L : List (Addr × κ)) : List Int := L.map fun e => G.hash e.2
theorem ents_len (L : List (Addr × κ)) : (ents G L).length = L.length := List.length_map _
theorem hashs_len (L : List (Addr × κ)) : (hashs G L).length = L.length := List.length_map _
theorem ents_get {L : List (Addr × κ)} {i : Nat} {e : Addr × κ} (h : L[i]? = some e) : (ents G L)[i]? = some (G.hash e.2, Value.ref e.1) := by
  unfold ents
  rw [List.getElem?_map, h]
  rfl
theorem hashs_get {L : List (Addr × κ)} {i : Nat} {e : Addr × κ} (h : L[i]? = some e) : (hashs G L)[i]? = some (G.hash e.2) := by
  unfold hashs
  rw [List.getElem?_map, h]
  rfl
structure Stand (G : HeapKind P w κ) (h : Heap) (S : Addr) (L : List (Addr × κ)) (es : Array (Int × Value)) (n : Nat) (t : SetTable) : Prop where
  obj : ∃ o, h.get? S = some o ∧ o.ExactSet ∧ o.data = .set es n t
  inn : es.toList = ents G L
  tab : TabOk t (hashs G L)
  once : (L.map (·.2)).Nodup
  keys : ∀ e ∈ L, G.is h e.2 e.1
  even : t.plain = true
  ord : w.params.followText "set-order" = true ∨ t.led = true
  space : L.length * 5 < t.mask * 3
  small : L.length < 64
variable {S : Addr} {L : List (Addr × κ)} {es : Array (Int × Value)} {n : Nat} {t : SetTable}
theorem ents_size (h : es.toList = ents G L) : es.size = L.length := by
  rw [← Array.length_toList, h, ents_len]
theorem Stand.len (R : Stand G s.heap S L es n t) : es.size = L.length := ents_size R.inn
theorem fits_of (h1 : t.place.size = es.size) (h2 : t.dummies = #[]) (h3 : es.size ≤ t.mask) : t.fits es.size = true := by
  unfold SetTable.fits SetTable.fill
  rw [h2, Bool.and_eq_true, beq_iff_eq, decide_eq_true_eq]
  refine ⟨h1, ?_⟩
  show t.place.size + 0 ≤ t.mask
  omega
theorem Stand.places (R : Stand G s.heap S L es n t) : t.place.size = L.length := R.tab.sz.trans (hashs_len L)
theorem Stand.fits (R : Stand G s.heap S L es n t) : t.fits es.size = true := by
  have a := R.len
  have b := R.places
  have c := R.space
  exact fits_of (by omega) R.tab.dm (by omega)
theorem Stand.get (R : Stand G s.heap S L es n t) {i : Nat} {e : Addr × κ} (h : L[i]? = some e) : es[i]? = some (G.hash e.2, Value.ref e.1) := by
  rw [← Array.getElem?_toList, R.inn]
  exact ents_get h
theorem Stand.firm (R : Stand G s.heap S L es n t) : ¬ t.gaveWay = true := by
  unfold SetTable.gaveWay
  rw [mask_odd R.tab.mok]
  decide
theorem Stand.some_at (R : Stand G s.heap S L es n t) {i j : Nat} (h : t.place.toList[i]? = some j) : ∃ e, L[i]? = some e ∧ e ∈ L := by
  have a : i < t.place.toList.length := (List.getElem?_eq_some_iff.mp h).1
  rw [Array.length_toList, R.places] at a
  exact ⟨L[i], List.getElem?_eq_getElem a, List.getElem_mem a⟩
theorem seek (M : Mute G) (R : Stand G s.heap S L es n t) {x : Addr} {k : κ} (hx : G.is s.heap k x) (hu : G.room A) {K : Nat} (lim : K < 10 * SetTable.turns t.mask)
    (free : way t.mask (G.hash k) K ∉ t.place.toList) (taken : ∀ c, c < K → way t.mask (G.hash k) c ∈ t.place.toList) {Q : SetFound → Shared → Prop}
    (yes : k ∈ L.map (·.2) → Q (.there none) s) (no : k ∉ L.map (·.2) → Q (.free (way t.mask (G.hash k) K) false) s) :
    ∀ (f c : Nat) (from_ : Option SetTable.Probe), from_.getD (t.probeStart (G.hash k)) = stp t.mask (G.hash k) c → c ≤ K → K - c < f →
      (∀ (i : Nat) e, L[i]? = some e → e.2 = k → ∃ d, (c ≤ d ∧ d < K) ∧ t.place.toList[i]? = some (way t.mask (G.hash k) d)) →
      wpAny (model P w) A (setSearchFrom S (.ref x) (G.hash k) true f from_) Q E s := by
  obtain ⟨o, ho, hex, hd⟩ := R.obj
  intro f
  induction f with
  | zero => exact fun c _ _ _ z => absurd z (Nat.not_lt_zero _)
  | succ f ih =>
    intro c from_ start le fuel ahead
    rw [setSearchFrom_succ]
    refine wpAny_bind (wpAny_setState_of ho hd R.fits ?_)
    dsimp only
    refine wp_if_neg R.firm ?_
    try refine wpAny_bind (wpAny_pure ?_)
    have wj : ∀ d, (nth t.mask (stp t.mask (G.hash k) c) d).j = way t.mask (G.hash k) (c + d) := fun d => congrArg SetTable.Probe.j (stp_add t.mask (G.hash k) c d)
    have hAt : ∀ (i : Nat) e, L[i]? = some e → (es[i]?.map (·.1)).getD 0 = G.hash e.2 := fun i e h => by
      rw [R.get h]
      rfl
    have back : ∀ (i : Nat) e d, L[i]? = some e → e.2 = k → t.place.toList[i]? = some (way t.mask (G.hash k) d) → c ≤ d →
        t.place.toList[i]? = some (nth t.mask (stp t.mask (G.hash k) c) (d - c)).j ∧ (es[i]?.map (·.1)).getD 0 = G.hash k := fun i e d h1 h2 h3 h4 => by
      rw [wj, Nat.add_sub_cancel' h4]
      exact ⟨h3, by rw [hAt i e h1, h2]⟩
    rcases go_spec t R.tab.ris R.tab.dm (fun i => (es[i]?.map (·.1)).getD 0) (G.hash k) (10 * SetTable.turns t.mask) (K - c) (stp t.mask (G.hash k) c) (stp_clean ..) (by omega)
      (fun d hd => by rw [wj]; exact taken (c + d) (by omega)) (by rw [wj, Nat.add_sub_cancel' le]; exact free) with ⟨q, i, hq, hi, _, before, met⟩ | ⟨before, met⟩
    · have met : t.probe (fun i => (es[i]?.map (·.1)).getD 0) (G.hash k) (from_.getD (t.probeStart (G.hash k))) = some (.candidate (way t.mask (G.hash k) (c + q)) i (stp t.mask (G.hash k) (c + (q + 1)))) := by
        rw [start, ← wj, ← stp_add]
        exact met
      rw [met]
      dsimp only
      rw [wj] at hi
      obtain ⟨e, he, mem⟩ := R.some_at hi
      have live : t.slot (way t.mask (G.hash k) (c + q)) = .live i := slot_live R.tab.ris hi
      have rest : wpAny (model P w) A (searchRest S (.ref x) (G.hash k) true f es t (way t.mask (G.hash k) (c + q)) i (stp t.mask (G.hash k) (c + (q + 1)))) Q E s := by
        unfold searchRest
        rw [R.get he]
        dsimp only
        refine wpAny_bind (wpAny_holding (G.eqBool hu (R.keys e mem) hx ?_))
        refine wpAny_bind (wpAny_setState_of ho hd R.fits ?_)
        dsimp only
        by_cases same : e.2 = k
        · refine wp_if_pos (by simp [same]) (wpAny_pure (yes ?_))
          exact List.mem_map.mpr ⟨e, mem, same⟩
        · refine wp_if_neg (by simp [same]) ?_
          try refine wpAny_bind (wpAny_pure ?_)
          rw [sameMem]
          dsimp only
          simp only [if_true, live, R.get he]
          refine wpAny_bind (wpAny_isSame_ref_self (wpAny_bind (wpAny_pure ?_)))
          simp only [if_true]
          refine wp_if_neg (by simp [same]) (ih (c + (q + 1)) _ rfl (by omega) (by omega) fun i2 e2 h2 k2 => ?_)
          obtain ⟨d, ⟨d1, d2⟩, d3⟩ := ahead i2 e2 h2 k2
          refine ⟨d, ⟨?_, d2⟩, d3⟩
          by_cases z : d < c + q
          · obtain ⟨y1, y2⟩ := back i2 e2 d h2 k2 d3 d1
            exact absurd y2 (before (d - c) i2 (by omega) y1)
          · by_cases z2 : d = c + q
            · rw [z2] at d3
              have := (slot_live R.tab.ris d3).symm.trans live
              injection this with this
              rw [this, he] at h2
              exact absurd (by rw [Option.some.inj h2]; exact k2) same
            · omega
      by_cases hl : t.led = true
      · refine wp_if_neg (by simp [hl]) ?_
        try refine wpAny_bind (wpAny_pure ?_)
        exact rest
      · refine wp_if_pos (by simp [hl]) ?_
        refine wpAny_bind (seen_not M hx (fun y hy => ?_) _ _ _ ?_)
        · obtain ⟨v, hv, rfl⟩ := List.mem_map.mp hy
          have hv : v ∈ es ∧ v.1 = G.hash k := by simpa using hv
          have hv : v ∈ ents G L := by
            rw [← R.inn]
            exact Array.mem_toList_iff.mpr hv.1
          obtain ⟨e2, m2, rfl⟩ := List.mem_map.mp hv
          exact ⟨e2.2, e2.1, rfl, R.keys e2 m2⟩
        · refine wp_if_neg (by decide) ?_
          try refine wpAny_bind (wpAny_pure ?_)
          exact rest
    · have met : t.probe (fun i => (es[i]?.map (·.1)).getD 0) (G.hash k) (from_.getD (t.probeStart (G.hash k))) = some (.empty (way t.mask (G.hash k) K) none) := by
        have e2 := wj (K - c)
        rw [Nat.add_sub_cancel' le] at e2
        rw [start, ← e2]
        exact met
      rw [met]
      dsimp only
      refine wpAny_pure (no fun m => ?_)
      obtain ⟨e, he, hk⟩ := List.mem_map.mp m
      obtain ⟨i, lt, rfl⟩ := List.getElem_of_mem he
      have h2 := List.getElem?_eq_getElem lt
      obtain ⟨d, ⟨d1, d2⟩, d3⟩ := ahead i _ h2 hk
      obtain ⟨y1, y2⟩ := back i _ d h2 hk d3 d1
      exact before (d - c) i (by omega) y1 y2
theorem seek_new (M : Mute G) (R : Stand G s.heap S L es n t) {x : Addr} {k : κ} (hx : G.is s.heap k x) (hu : G.room A) {Q : SetFound → Shared → Prop} (yes : k ∈ L.map (·.2) → Q (.there none) s)
    (no : ∀ K, k ∉ L.map (·.2) → way t.mask (G.hash k) K ∉ t.place.toList → (∀ c, c < K → way t.mask (G.hash k) c ∈ t.place.toList) → Q (.free (way t.mask (G.hash k) K) false) s) :
    wpAny (model P w) A (setSearch S (.ref x) (G.hash k) true) Q E s := by
  have sp := R.space
  obtain ⟨K, lim, free, taken⟩ := R.tab.first (by rw [hashs_len]; omega) (G.hash k)
  have big : 10 * SetTable.turns t.mask ≤ 99999 := by
    unfold SetTable.turns
    rcases R.tab.mok with z | z | z <;> rw [z] <;> decide
  unfold setSearch
  refine seek M R hx hu lim free taken yes (fun z => no K z free taken) 100000 0 none rfl (Nat.zero_le _) (by omega) fun i e he hk => ?_
  have lt : i < t.place.toList.length := by
    rw [Array.length_toList, R.places]
    exact (List.getElem?_eq_some_iff.mp he).1
  have hj := List.getElem?_eq_getElem lt
  obtain ⟨d, d1, d2⟩ := R.tab.before free (by rw [← hk]; exact hashs_get he) hj
  exact ⟨d, ⟨Nat.zero_le _, d1⟩, by rw [hj, d2]⟩
theorem but_set {h h' : Heap} {k : κ} {a : Addr} {o : Obj} (M : Mute G) (hk : G.is h k a) (ho : h.get? S = some o) (hd : o.data = .set es n t) (hs : Heap.SameBut S h h') : G.is h' k a := by
  refine M.st (fun b u vs m hb hu => ?_) hk
  refine (hs.2 b fun z => ?_).trans hb
  subst z
  rw [ho] at hb
  rw [← Option.some.inj hb, hd] at hu
  cases hu
theorem picked {order : Array Nat} (hr : es.toList = ents G L) (hp : order.toList.Perm (List.range L.length)) :
    ∃ L2, ((order.filterMap (es[·]?)).toList = ents G L2 ∧ hashs G L2 = order.toList.map fun i => (es.map (·.1)).getD i 0) ∧ L2.Perm L := by
  have ent : ∀ (i : Nat) (lt : i < L.length), es[i]? = some (G.hash L[i].2, Value.ref L[i].1) := fun i lt => by
    rw [← Array.getElem?_toList, hr]
    exact ents_get (List.getElem?_eq_getElem lt)
  have all : ∀ ord : List Nat, (∀ i ∈ ord, i < L.length) → (ord.filterMap (fun i => es[i]?) = ents G (ord.filterMap fun i => L[i]?) ∧ hashs G (ord.filterMap fun i => L[i]?) = ord.map fun i => (es.map (·.1)).getD i 0) := by
    intro ord
    induction ord with
    | nil => exact fun _ => ⟨rfl, rfl⟩
    | cons i ord ih =>
      intro lt
      have li := lt i List.mem_cons_self
      obtain ⟨a, b⟩ := ih fun j hj => lt j (List.mem_cons_of_mem _ hj)
      rw [List.filterMap_cons_some (ent i li), List.filterMap_cons_some (List.getElem?_eq_getElem li)]
      have first : (es.map (·.1)).getD i 0 = G.hash L[i].2 := by
        rw [Array.getD_eq_getD_getElem?, Array.getElem?_map, ent i li]
        rfl
      refine ⟨?_, ?_⟩
      · rw [a]
        rfl
      · rw [List.map_cons, ← b, first]
        rfl
  obtain ⟨a, b⟩ := all order.toList fun i hi => List.mem_range.mp (hp.mem_iff.mp hi)
  refine ⟨_, ⟨by rw [Array.toList_filterMap]; exact a, b⟩, (hp.filterMap _).trans ?_⟩
  have whole : ∀ m, m ≤ L.length → (List.range m).filterMap (fun i => L[i]?) = L.take m := by
    intro m
    induction m with
    | zero => exact fun _ => rfl
    | succ m ih =>
      intro lt
      have e := List.getElem?_eq_getElem (l := L) (Nat.lt_of_succ_le lt)
      rw [List.range_succ, List.filterMap_append, ih (by omega), take_next e, List.filterMap_cons_some e]
      rfl
  have w := whole L.length (Nat.le_refl _)
  rw [List.take_length] at w
  rw [w]
theorem wider (M : Mute G) {o : Obj} (ho : s.heap.get? S = some o) (hex : o.ExactSet) (hd : o.data = .set es n t) (inn : es.toList = ents G L) (hpl : t.place.size = es.size) (hdm : t.dummies = #[]) (hle : es.size ≤ t.mask)
    (once : (L.map (·.2)).Nodup) (keys : ∀ e ∈ L, G.is s.heap e.2 e.1) (even : t.plain = true) (ord : w.params.followText "set-order" = true ∨ t.led = true) (small : L.length < 64) {want m : Nat}
    (hw : SetTable.sizeAbove want - 1 = m) (hm : MaskOk m) (h128 : SetTable.sizeAbove want ≤ 128) (space : L.length * 5 < m * 3) {Q : Unit → Shared → Prop}
    (hQ : ∀ h' L' es' n' t', Heap.SameBut S s.heap h' → Stand G h' S L' es' n' t' → L'.Perm L → Q () { s with heap := h' }) : wpAny (model P w) A (setRelay S want) Q E s := by
  have len := ents_size inn
  obtain ⟨t', order, e, hp, T, em, el, ep, ed⟩ := relaid_ok t (hs := es.map (·.1)) (wanted := want) hw hm (by rw [Array.size_map, len]; omega)
  rw [Array.size_map, len] at hp
  obtain ⟨L2, ⟨r1, r2⟩, pm⟩ := picked inn hp
  rw [← r2] at T
  have len2 : (order.filterMap (es[·]?)).size = L.length := (ents_size r1).trans pm.length_eq
  have sb : Heap.SameBut S s.heap (s.heap.update S (Obj.putSet (order.filterMap (es[·]?)) t')) := Heap.SameBut.update ..
  rw [setRelay_eq]
  refine wpAny_bind (wpAny_setState_of ho hd (fits_of hpl hdm hle) ?_)
  dsimp only
  refine wp_if_neg (by rw [sizeLine_eq]; omega) ?_
  try refine wpAny_bind (wpAny_pure ?_)
  rw [e]
  dsimp only
  refine wpAny_bind ?_
  refine wp_if_neg (by rw [len2, len]; simp) ?_
  try refine wpAny_bind (wpAny_pure ?_)
  refine wpAny_pure ?_
  dsimp only
  refine wpAny_storeSet_of ho hd ?_ (by rw [len2, sizeLine_eq]; omega)
  refine hQ _ L2 (order.filterMap (es[·]?)) (n + 1) t' sb ?_ pm
  exact { obj := ⟨_, store_at ho hd, ⟨hex.1, hex.2.1, hex.2.2⟩, rfl⟩, inn := r1, tab := T, once := (pm.map (·.2)).nodup_iff.mpr once, keys := fun x hx => but_set M (keys x (pm.mem_iff.mp hx)) ho hd sb,
          even := by rw [ep]; exact even, ord := by rw [el]; exact ord, space := by rw [pm.length_eq, em]; exact space, small := by rw [pm.length_eq]; exact small }
theorem put_in (M : Mute G) (R : Stand G s.heap S L es n t) {x : Addr} {k : κ} (hx : G.is s.heap k x) (hu : G.room A) (few : L.length < 63) {Q : Bool → Shared → Prop}
    (hQ : ∀ b h' L' es' n' t', Heap.SameBut S s.heap h' → Stand G h' S L' es' n' t' → (k ∈ L.map (·.2) → L' = L) → (k ∉ L.map (·.2) → L'.Perm ((x, k) :: L)) → Q b { s with heap := h' }) :
    wpAny (model P w) A (setAddHashed S (.ref x) (G.hash k)) Q E s := by
  obtain ⟨o, ho, hex, hd⟩ := R.obj
  have len := R.len
  have space := R.space
  unfold setAddHashed
  refine wpAny_holding ?_
  rw [show (100000 : Nat) = 99999 + 1 from rfl, setAddHashedIn_succ]
  refine wpAny_bind (wpAny_setState_of ho hd R.fits ?_)
  dsimp only
  refine wp_if_neg (by simp [byScan, Value.scannable]) ?_
  try refine wpAny_bind (wpAny_pure ?_)
  refine wpAny_bind (seek_new M R hx hu (fun old => ?_) fun K new free taken => ?_)
  · dsimp only
    exact wpAny_pure (hQ false _ L es n t (Heap.SameBut.refl S _) R (fun _ => rfl) fun z => absurd old z)
  · dsimp only
    refine wpAny_bind (wpAny_setState_of ho hd R.fits ?_)
    dsimp only
    obtain ⟨q1, q2, q3, q4, q5, q6, q7, q8, q9⟩ := R.tab.put free taken
    have even : (t.put (way t.mask (G.hash k) K)).1.plain = true := q6.trans R.even
    generalize t.put (way t.mask (G.hash k) K) = pr at q1 q3 q4 q5 q6 q7 q8 q9 even ⊢
    obtain ⟨t1, at_⟩ := pr
    dsimp only at q1 q3 q4 q5 q6 q7 q8 q9 even ⊢
    subst q1
    first
      | (refine wpAny_bind ?_; refine wp_if_pos even ?_; refine M.val hx _ _ _ ?_)
      | refine wp_if_pos even (wpAny_bind (M.val hx _ _ _ ?_))
    simp only [if_true]
    rw [hashs_len] at q2 q9
    have ins : (SetTable.insertAt es (SetTable.below t.place (way t.mask (G.hash k) K)) (G.hash k, Value.ref x)).toList = ents G (L.take (SetTable.below t.place (way t.mask (G.hash k) K)) ++ (x, k) :: L.drop (SetTable.below t.place (way t.mask (G.hash k) K))) := by
      rw [SetTable.toList_insertAt, R.inn]
      unfold ents
      rw [List.map_append, List.map_cons, List.map_take, List.map_drop]
    generalize SetTable.below t.place (way t.mask (G.hash k) K) = at_ at q2 q3 ins ⊢
    have eh : (hashs G L).take at_ ++ G.hash k :: (hashs G L).drop at_ = hashs G (L.take at_ ++ (x, k) :: L.drop at_) := by
      unfold hashs
      rw [List.map_append, List.map_cons, List.map_take, List.map_drop]
    rw [eh] at q3
    have pm : (L.take at_ ++ (x, k) :: L.drop at_).Perm ((x, k) :: L) := put_perm L at_ (x, k)
    generalize L.take at_ ++ (x, k) :: L.drop at_ = L1 at pm q3 ins
    have len1 : L1.length = L.length + 1 := pm.length_eq
    generalize SetTable.insertAt es at_ (G.hash k, Value.ref x) = es1 at ins ⊢
    have size1 : es1.size = L.length + 1 := (ents_size ins).trans len1
    have once1 : (L1.map (·.2)).Nodup := (pm.map (·.2)).nodup_iff.mpr (List.nodup_cons.mpr ⟨new, R.once⟩)
    refine wpAny_bind (wpAny_storeSet_of ho hd ?_ (by rw [size1, sizeLine_eq]; omega))
    have sb : Heap.SameBut S s.heap (s.heap.update S (Obj.putSet es1 t1)) := Heap.SameBut.update ..
    have ho1 := store_at (es' := es1) (t' := t1) ho hd
    generalize s.heap.update S (Obj.putSet es1 t1) = h1 at sb ho1 ⊢
    have keys1 : ∀ e ∈ L1, G.is h1 e.2 e.1 := fun e he => by
      rcases List.mem_cons.mp (pm.mem_iff.mp he) with rfl | he
      · exact but_set M hx ho hd sb
      · exact but_set M (R.keys e he) ho hd sb
    have ord1 : w.params.followText "set-order" = true ∨ t1.led = true := by
      rw [q5]
      exact R.ord
    have tight : t1.tooFull = true ↔ t1.mask * 3 ≤ (L.length + 1) * 5 := by
      unfold SetTable.tooFull
      rw [decide_eq_true_eq, q9]
    by_cases full : t1.tooFull = true
    · first
        | (refine wpAny_bind ?_; refine wp_if_pos (by simp [full]) ?_)
        | (refine wp_if_pos (by simp [full]) ?_; refine wpAny_bind ?_)
      have tight := tight.mp full
      rw [len]
      have two : (t.mask = 7 ∧ L.length = 4) ∨ (t.mask = 31 ∧ L.length = 18) := by
        rw [q4] at tight
        rcases R.tab.mok with z | z | z <;> rw [z] at tight space
        · exact .inl ⟨z, by omega⟩
        · exact .inr ⟨z, by omega⟩
        · omega
      have more : ∀ m, SetTable.sizeAbove (SetTable.grown (L.length + 1)) - 1 = m → MaskOk m → SetTable.sizeAbove (SetTable.grown (L.length + 1)) ≤ 128 → (L.length + 1) * 5 < m * 3 →
          wpAny (model P w) A (setRelay S (SetTable.grown (L.length + 1))) (fun _ u => wpAny (model P w) A (pure true) Q E u) E { s with heap := h1 } := fun m e1 e2 e3 e4 =>
        wider (s := { s with heap := h1 }) M ho1 ⟨hex.1, hex.2.1, hex.2.2⟩ rfl ins (by rw [q3.sz, hashs_len, len1, size1]) q3.dm (by rw [size1, q4]; rcases two with ⟨y, z⟩ | ⟨y, z⟩ <;> omega) once1 keys1 even ord1 (by omega) e1 e2 e3 (by rw [len1]; exact e4)
          fun h2 L2 es2 n2 t2 sb2 R2 pm2 => wpAny_pure (hQ true h2 L2 es2 n2 t2 (sb.trans sb2) R2 (fun z => absurd z new) fun _ => pm2.trans pm)
      rcases two with ⟨_, z⟩ | ⟨_, z⟩
      · exact more 31 (by rw [z, size_20]) (.inr (.inl rfl)) (by rw [z, size_20]; decide) (by omega)
      · exact more 127 (by rw [z, size_76]) (.inr (.inr rfl)) (by rw [z, size_76]; decide) (by omega)
    · first
        | refine wp_if_neg (by simp [full]) ?_
        | (refine wpAny_bind ?_; refine wp_if_neg (by simp [full]) ?_; refine wpAny_pure ?_)
      refine wpAny_pure (hQ true h1 L1 es1 (n + 1) t1 sb ?_ (fun z => absurd z new) fun _ => pm)
      rw [tight] at full
      exact { obj := ⟨_, ho1, ⟨hex.1, hex.2.1, hex.2.2⟩, rfl⟩, inn := ins, tab := q3, once := once1, keys := keys1, even := even, ord := ord1, space := by rw [len1]; omega, small := by omega }
structure Fed (ks : List (Addr × κ)) (i : Nat) (L : List (Addr × κ)) : Prop where
  from_ : ∀ e ∈ L, e ∈ ks.take i
  have_ : ∀ e ∈ ks.take i, e.2 ∈ L.map (·.2)
  few : L.length ≤ i
theorem Fed.none (ks : List (Addr × κ)) : Fed ks 0 [] := ⟨fun _ h => (by cases h), fun _ h => (by cases h), Nat.le_refl _⟩
theorem Fed.next {ks L L' : List (Addr × κ)} {i : Nat} {e : Addr × κ} (g : Fed ks i L) (h : ks[i]? = some e) (old : e.2 ∈ L.map (·.2) → L' = L) (new : e.2 ∉ L.map (·.2) → L'.Perm (e :: L)) : Fed ks (i + 1) L' := by
  have tk := take_next h
  by_cases z : e.2 ∈ L.map (·.2)
  · rw [old z]
    refine ⟨fun x hx => by rw [tk]; exact List.mem_append_left _ (g.from_ x hx), fun x hx => ?_, Nat.le_succ_of_le g.few⟩
    rw [tk] at hx
    rcases List.mem_append.mp hx with hx | hx
    · exact g.have_ x hx
    · rw [List.mem_singleton.mp hx]
      exact z
  · have pm := new z
    refine ⟨fun x hx => ?_, fun x hx => ?_, by rw [pm.length_eq]; exact Nat.succ_le_succ g.few⟩
    · rw [tk]
      rcases List.mem_cons.mp (pm.mem_iff.mp hx) with rfl | hx
      · exact List.mem_append_right _ (List.mem_singleton.mpr rfl)
      · exact List.mem_append_left _ (g.from_ x hx)
    · rw [tk] at hx
      refine (pm.map (·.2)).mem_iff.mpr ?_
      rcases List.mem_append.mp hx with hx | hx
      · exact List.mem_cons_of_mem _ (g.have_ x hx)
      · rw [List.mem_singleton.mp hx]
        exact List.mem_cons_self
theorem Stand.move {h h' : Heap} (R : Stand G h S L es n t) (ha : ∀ o, h.get? S = some o → h'.get? S = some o) (hk : ∀ e ∈ L, G.is h' e.2 e.1) : Stand G h' S L es n t := by
  obtain ⟨o, ho, r⟩ := R.obj
  exact { R with obj := ⟨o, ha o ho, r⟩, keys := hk }
abbrev Bare (w : World) : Obj := { cls := .type "set", dict := none, data := .set #[] 0 (.fresh 0 0 (!w.params.followText "set-order")) }
theorem bare_stand {h : Heap} (ho : h.get? S = some (Bare w)) : Stand G h S [] #[] 0 (.fresh 0 0 (!w.params.followText "set-order")) where
  obj := ⟨_, ho, ⟨rfl, rfl, rfl⟩, rfl⟩
  inn := rfl
  tab := ⟨List.Pairwise.nil, rfl, rfl, .inl rfl, fun x hx => (by cases hx), fun i y j hi => (by cases hi)⟩
  once := List.nodup_nil
  keys := fun _ hx => (by cases hx)
  even := rfl
  ord := by
    cases z : w.params.followText "set-order" with
    | true => exact .inl rfl
    | false => exact .inr rfl
  space := show 0 * 5 < 7 * 3 by decide
  small := show 0 < 64 by decide
theorem keep_is (M : Mute G) {h h' : Heap} {k : κ} {a : Addr} (hk : ∀ b o, h.get? b = some o → h'.get? b = some o) (x : G.is h k a) : G.is h' k a := M.st (fun b o _ _ e _ => hk b o e) x
theorem feed (M : Mute G) {I : Addr} {fp wr : List Addr} {Gn : Array GenState → Array GenState → Prop} {cnt : Nat} {Pv : Nat → Value → Prop} {St : Nat → Shared → Prop} {R : Result → Shared → Prop}
    (W : WalksS P w A.in1 I fp wr Gn cnt Pv St) (S : Addr) (hS : S ∉ fp) (ks : List (Addr × κ)) (hc : cnt = ks.length) (few : ks.length < 64) (hv : ∀ i v, Pv i v → ∃ e, ks[i]? = some e ∧ v = .ref e.1)
    (h0 : Heap) (hk : ∀ e ∈ ks, G.is h0 e.2 e.1) (new : h0.get? S = none) (wnew : ∀ b ∈ wr, h0.get? b = none) (hu : G.room A.in1)
    (fin : ∀ s' L es n t, Moved (S :: wr) Gn s s' → Stand G s'.heap S L es n t → Fed ks cnt L → (∀ b o, h0.get? b = some o → s'.heap.get? b = some o) → R (.ok (.ret .none)) s') :
    ∀ (m i : Nat) (u : Shared), i + m = cnt → St i u → Moved (S :: wr) Gn s u → (∀ b o, h0.get? b = some o → u.heap.get? b = some o) → (∃ L es n t, Stand G u.heap S L es n t ∧ Fed ks i L) →
      codeAny (model P w) A (.builtin "set.update.loop" ⟨[.ref S, .ref I], []⟩) R u := by
  have nw : S ∉ wr := fun h => hS (W.sub _ h)
  have up : ∀ b ∈ wr, b ∈ S :: wr := fun b h => List.mem_cons_of_mem _ h
  have on : ∀ {u u' : Shared}, Moved wr Gn u u' → (∀ b o, h0.get? b = some o → u.heap.get? b = some o) → ∀ b o, h0.get? b = some o → u'.heap.get? b = some o := fun mv kp b o e =>
    mv.heap b o (fun z => by rw [wnew b z] at e; cases e) (kp b o e)
  have inks : ∀ {i : Nat} {L : List (Addr × κ)}, Fed ks i L → ∀ e ∈ L, e ∈ ks := fun g e he => List.mem_of_mem_take (g.from_ e he)
  intro m
  induction m with
  | zero =>
    rintro i u rfl st mv kp ⟨L, es, n, t, hR, g⟩
    refine codeAny_builtin PyProof.Rows.F.entry_set_update_loop ?_
    rw [Around.under_plainId PyProof.Rows.F.plain_set_update_loop _]
    show wpAny _ A.in1 (pyNext (.ref I) >>= _) _ _ u
    refine wpAny_bind (W.done u _ _ st fun u' mv' => ?_)
    show wpAny _ A.in1 (ret Value.none) _ _ u'
    have kp' := on mv' kp
    exact wpAny_pure (fin u' L es n t (Moved.trans W.gtrans mv (mv'.mono up)) (hR.move (fun o e => mv'.heap S o nw e) fun e he => keep_is M kp' (hk e (inks g e he))) g kp')
  | succ m ih =>
    rintro i u hm st mv kp ⟨L, es, n, t, hR, g⟩
    refine codeAny_builtin PyProof.Rows.F.entry_set_update_loop ?_
    rw [Around.under_plainId PyProof.Rows.F.plain_set_update_loop _]
    show wpAny _ A.in1 (pyNext (.ref I) >>= _) _ _ u
    refine wpAny_bind (W.item i u _ _ (by omega) st fun v u' pv st' mv' => ?_)
    obtain ⟨e, he, rfl⟩ := hv i v pv
    have kp' := on mv' kp
    have hR' : Stand G u'.heap S L es n t := hR.move (fun o z => mv'.heap S o nw z) fun x hx => keep_is M kp' (hk x (inks g x hx))
    have hx : G.is u'.heap e.2 e.1 := keep_is M kp' (hk e (List.mem_of_getElem? he))
    show wpAny _ A.in1 (holding [Value.ref e.1] (setAdd S (.ref e.1)) >>= _) _ _ u'
    refine wpAny_bind (wpAny_holding ?_)
    unfold setAdd
    refine wpAny_holding (wpAny_bind (G.pyHash hu hx ?_))
    refine put_in (s := { u' with toks := u'.toks + G.draws e.2 }) M hR' hx hu (by have := g.few; omega) fun b h2 L2 es2 n2 t2 sb R2 c1 c2 => ?_
    have oth : ∀ b o, b ≠ S → u'.heap.get? b = some o → h2.get? b = some o := fun b o z q => (sb.2 b z).trans q
    refine wpAny_pure ⟨plainId_quiet PyProof.Rows.F.plain_set_update_loop _, ih (i + 1) _ (by omega) (W.frame _ u' _ _ st' (Nat.le_add_right _ _) fun b hb o q => oth b o (fun z => hS (z ▸ hb)) q) ?_ (fun b o q => oth b o (fun z => ?_) (kp' b o q)) ⟨L2, es2, n2, t2, R2, g.next he c1 c2⟩⟩
    · exact Moved.trans W.gtrans mv ((mv'.mono up).then_heap (Nat.le_add_right _ _) fun b o hb q => oth b o (fun z => hb (z ▸ List.mem_cons_self)) q)
    · subst z
      rw [new] at q
      cases q
theorem none_from {h : Heap} (b : Addr) (le : h.objs.size ≤ b) : h.get? b = none := by
  cases q : h.get? b with
  | none => rfl
  | some o => exact absurd (Heap.lt_size q) (Nat.not_lt_of_le le)
theorem set_of_tuple (M : Mute G) {l : Addr} {its : Array Value} (ks : List (Addr × κ)) {Q : Value → Shared → Prop} (hh : A.handled = none) (ht : s.heap.IsTuple l its) (hit : its.toList = ks.map fun e => Value.ref e.1) (hk : ∀ e ∈ ks, G.is s.heap e.2 e.1)
    (few : ks.length < 64) (hu : G.room A.in1.in1.in1)
    (hQ : ∀ (h' : Heap) (tk : Nat) L es n t, Stand G h' s.heap.objs.size L es n t → Fed ks ks.length L → (∀ b o, s.heap.get? b = some o → h'.get? b = some o) → Q (.ref s.heap.objs.size) { s with heap := h', toks := tk }) :
    wpAny (model P w) A (call (.type "set") [.ref l]) Q E s := by
  have cnt : its.size = ks.length := by
    rw [← Array.length_toList, hit, List.length_map]
  have pick : ∀ (i : Nat) (v : Value), its[i]? = some v → ∃ e, ks[i]? = some e ∧ v = .ref e.1 := fun i v hi => by
    rw [← Array.getElem?_toList, hit, List.getElem?_map] at hi
    obtain ⟨e, he, ev⟩ := Option.map_eq_some_iff.mp hi
    exact ⟨e, he, ev.symm⟩
  obtain ⟨c, tl, hmro⟩ := PySem.F.called_set.mro
  have made := PySem.F.called_set.made
  have subT := PySem.F.called_set.sub
  refine wpAny_call (codeAny_of_tree ?_)
  show wpAny _ _ (callAny (.type "set") _) _ _ _
  refine wpAny_pure ⟨Code.quiet_builtin _ (by decide +kernel), codeAny_builtin PySem.F.entry_type_call ?_⟩
  rw [Around.under_plain (weight_type_call_type "set" [.ref l] []) rfl]
  have noT := PySem.F.called_set.notType
  have can := PySem.F.called_set.canCreate
  have tc := PySem.F.typeCall_set_1 (.ref l)
  repeat (any_goals (first | assumption | wp_step))
  refine codeAny_mono (code_set_led1 (.ref l) (E := E) (Q₁ := fun v u => v = .ref s.heap.objs.size ∧ u = { s with heap := s.heap.push (Bare w) }) ⟨rfl, rfl⟩) fun r u hr => ?_
  rcases r with er | fl
  · exact hr
  cases fl with
  | ret v =>
    obtain ⟨e1, e2⟩ := hr
    subst e1 e2
    have got : (s.heap.push (Bare w)).get? s.heap.objs.size = some (Bare w) := Heap.get?_push_size _ rfl
    have ty : Shared.TypeIs { s with heap := s.heap.push (Bare w) } (.ref s.heap.objs.size) "set" := ⟨_, got, rfl⟩
    have look := PySem.F.called_set.init.lookup
    have bnd := PySem.F.called_set.init.bind (.ref s.heap.objs.size)
    repeat (any_goals (first | assumption | wp_step))
    refine codeAny_mono (codeAny_call_builtin (R := wants (fun r u => r = .none ∧ ∃ h' tk L es n t, u = { s with heap := h', toks := tk } ∧ (Stand G h' s.heap.objs.size L es n t ∧ Fed ks ks.length L) ∧ ∀ b o, s.heap.get? b = some o → h'.get? b = some o) E)
      PySem.F.called_set.init.plain PySem.F.entry_set_init (check_set_init_1 ty ?_)) fun r u hr => ?_
    · obtain ⟨o, ho, hc, nl, hd⟩ := ht
      have lt := Heap.lt_size ho
      obtain ⟨ocls, odict, odata, oslots⟩ := o
      dsimp only at hc hd
      subst hc hd
      have inT : (s.heap.push (Bare w)).IsTuple l its := ⟨_, Heap.get?_push_of_some _ ho, rfl, nl, rfl⟩
      have ho2 : (s.heap.push (Bare w)).get? l = some { cls := .type "tuple", dict := odict, data := .seq its nl, slots := oslots } := Heap.get?_push_of_some _ ho
      have sub1 := PySem.F.sub_tuple_set
      have sub2 := PySem.F.sub_tuple_frozenset
      have noD : (Value.type "tuple" == Value.type "dict") = false := by decide
      unfold Builtin.«set.__init__» noKeywords Builtin.Frozenset.updateFrom
      generalize walkIt : pyIter = PI
      wp_walk
      subst walkIt
      refine wpAny_pyIter_tuple inT ?_
      refine wpAny_bind (wpAny_runValue ?_)
      have hh3 : A.in1.in1.in1.handled = none := by simp [hh]
      have sz : (s.heap.push (Bare w)).objs.size = s.heap.objs.size + 1 := Heap.size_push ..
      have apart : l ≠ (s.heap.push (Bare w)).objs.size := by rw [sz]; exact Nat.ne_of_lt (Nat.lt_succ_of_lt lt)
      have out : s.heap.objs.size ∉ [(s.heap.push (Bare w)).objs.size, l] := by
        rw [sz]
        intro z
        rcases List.mem_cons.mp z with z | z
        · exact Nat.ne_of_lt (Nat.lt_succ_self _) z
        · exact Nat.ne_of_gt lt (List.mem_singleton.mp z)
      refine feed (G := G) M (Walks.tuple hh3 _ l apart its).toS s.heap.objs.size out ks cnt few pick s.heap hk (none_from _ (Nat.le_refl _)) (fun b hb => none_from b (by rw [List.mem_singleton.mp hb, sz]; exact Nat.le_succ _)) hu ?fin its.size 0 _ (Nat.zero_add _)
        ⟨⟨_, Heap.get?_push_size _ rfl, rfl, rfl⟩, inT.push _⟩ (Moved.refl (Walks.tuple (prog := P) (w := w) hh3 _ l apart its).toS.grefl) (fun b o e => Heap.get?_push_of_some _ (Heap.get?_push_of_some _ e)) ⟨[], #[], 0, _, bare_stand (Heap.get?_push_of_some _ got), Fed.none ks⟩
      case fin =>
        intro u L es n t mv hR g kp
        obtain ⟨h', g2, d2, tk, os2⟩ := u
        have e1 : g2 = s.gens := mv.gens
        have e2 : d2 = s.drawn := mv.drawn
        have e3 : os2 = s.os := mv.os
        subst e1 e2 e3
        rw [cnt] at g
        show wpAny _ _ _ _ _ _
        refine wpAny_pure ?_
        show wpAny _ _ (ret Value.none) _ _ _
        exact wpAny_pure ⟨rfl, h', tk, L, es, n, t, rfl, ⟨hR, g⟩, kp⟩
    · rcases r with er | fl
      · exact hr
      cases fl with
      | ret v =>
        obtain ⟨e1, h', tk, L, es, n, t, e2, ⟨hR, g⟩, kp⟩ := hr
        subst e1 e2
        repeat (any_goals (first | assumption | wp_step))
        exact hQ _ _ _ _ _ _ hR g kp
      | _ => exact hr.elim
  | _ => exact hr.elim
end
end Es
set_option Elab.async false
set_option linter.all false
set_option maxRecDepth 100000
set_option maxHeartbeats 4000000
namespace Es
open PySem PySem.Spec PyProof.Rows L2
mutual
theorem reads_key {h : Heap} : ∀ (k : NestedKey) (v : Value) (as : List Addr), Reads h v k.data as → NestedIs h k v ∧ as = []
  | .none, _, _, r => by cases r; exact ⟨.none, rfl⟩
  | .num i, _, _, r => by cases r; exact ⟨.int _ _, rfl⟩
  | .text y, _, _, r => by cases r; exact ⟨.text _ _, rfl⟩
  | .tup ks, _, _, r => by
    rw [NestedKey.data] at r
    cases r with
    | tuple h1 h2 h3 h4 =>
      obtain ⟨a, b⟩ := reads_keys ks _ _ h4
      exact ⟨.tup h1 h2 h3 a, b⟩
theorem reads_keys {h : Heap} : ∀ (ks : List NestedKey) (vs : List Value) (as : List Addr), ReadsAll h vs (NestedKey.datas ks) as → NestedAll h ks vs ∧ as = []
  | [], _, _, r => by cases r; exact ⟨.nil, rfl⟩
  | k :: ks, _, _, r => by
    rw [NestedKey.datas] at r
    cases r with
    | cons h1 h2 =>
      obtain ⟨a, b⟩ := reads_key k _ _ h1
      obtain ⟨c, d⟩ := reads_keys ks _ _ h2
      exact ⟨.cons a c, by rw [b, d]; rfl⟩
end
theorem perm_back {α β : Type} {f : α → β} {vs ws : List β} (h : vs.Perm ws) : ∀ {L : List α}, ws = L.map f → ∃ L1 : List α, L1.Perm L ∧ vs = L1.map f := by
  induction h with
  | nil =>
    intro L e
    have : L = [] := List.map_eq_nil_iff.mp e.symm
    exact ⟨[], by rw [this], rfl⟩
  | cons x p ih =>
    intro L e
    cases L with
    | nil => cases e
    | cons y L =>
      rw [List.map_cons] at e
      injection e with e1 e2
      obtain ⟨L1, p1, q1⟩ := ih e2
      exact ⟨y :: L1, p1.cons y, by rw [List.map_cons, e1, q1]⟩
  | swap x y l =>
    intro L e
    match L, e with
    | a :: b :: L, e =>
      rw [List.map_cons, List.map_cons] at e
      injection e with e1 e
      injection e with e2 e3
      exact ⟨b :: a :: L, List.Perm.swap a b L, by rw [List.map_cons, List.map_cons, e1, e2, e3]⟩
  | trans p q ih1 ih2 =>
    intro L e
    obtain ⟨L1, p1, q1⟩ := ih2 e
    obtain ⟨L2, p2, q2⟩ := ih1 q1
    exact ⟨L2, p2.trans p1, q2⟩
section
variable {P : Program} {w : World} {A : Around} {E : Value → Shared → Prop} {s : Shared} {S : Addr} {L : List (Addr × NestedKey)} {es : Array (Int × Value)} {n : Nat} {t : SetTable}
abbrev byData (L : List (Addr × NestedKey)) : List (Addr × NestedKey) := L.mergeSort (PySem.W.dataLe false fun e => e.2.data)
theorem sorted_keys (R : Stand (numKind P w) s.heap S L es n t) (hh : A.handled = none) (rd : ∀ e ∈ L, ∃ as, Reads s.heap (.ref e.1) e.2.data as) (al : PySem.W.AllAlike (L.map fun e => e.2.data)) (so : PySem.W.Sortable (L.map fun e => e.2.data))
    (hu : A.units + 50 < cLine) (dp : ∀ e ∈ L, e.2.data.depth ≤ 40) {Q : Value → Shared → Prop}
    (hQ : ∀ s' p (out : List Value) (c : Nat) L', (∀ b o, s.heap.get? b = some o → s'.heap.get? b = some o) → s'.gens = s.gens → s'.os = s.os → s.heap.objs.size ≤ p → s'.heap.get? p = some (seqObj "list" out.toArray c) →
      out = (byData L').map (fun e => Value.ref e.1) → L'.Perm L → Q (.ref p) s') :
    wpAny (model P w) A (call (.builtin "sorted") [.ref S]) Q E s := by
  obtain ⟨o, ho, hex, hd⟩ := R.obj
  have len := R.len
  have few := R.small
  refine Calls.call_function_entry kind_sorted plain_sorted entry_sorted (args_sorted1 _) ?_
  unfold Builtin.«sorted»
  refine wpAny_bind (m := checkCount "sorted" 1 1 _) (wpAny_pure ?_)
  refine wpAny_bind (collect_set (A := A.in1) hh ⟨o, ho, hex.1, hd⟩ R.fits (by unfold scanBound; omega) R.tab.ris R.ord fun s1 vs kp sz g1 o1 pm => ?_)
  rw [R.inn] at pm
  obtain ⟨L1, p1, rfl⟩ := perm_back (f := fun e : Addr × NestedKey => Value.ref e.1) pm (L := L) (by unfold ents; rw [List.map_map]; rfl)
  have few1 : L1.length < 64 := by rw [p1.length_eq]; exact few
  refine wpAny_bind (wpAny_newList ?_ (by rw [List.length_map, sizeLine_eq]; omega))
  have inn : (s1.heap.push (seqObj "list" (L1.map fun e => Value.ref e.1).toArray 0)).get? s1.heap.objs.size = some (seqObj "list" (L1.map fun e => Value.ref e.1).toArray 0) := Heap.get?_push_size _ rfl
  have each1 : ∀ L1 : List (Addr × NestedKey), PySem.W.EachIs (fun v (e : Addr × NestedKey) => v = Value.ref e.1) (L1.map fun e => Value.ref e.1) L1 := by
    intro L1
    induction L1 with
    | nil => exact .nil
    | cons e L1 ih => exact .cons rfl ih
  have each2 : ∀ L1 : List (Addr × NestedKey), (∀ e ∈ L1, e ∈ L) → PySem.W.EachIs (fun v (e : Addr × NestedKey) => ∃ as, Reads (s1.heap.push (seqObj "list" (L1.map fun e => Value.ref e.1).toArray 0)) v e.2.data as ∧ s1.heap.objs.size ∉ as) (L1.map fun e => Value.ref e.1) L1 := by
    intro L1 h
    generalize hN : seqObj "list" (L1.map fun e => Value.ref e.1).toArray 0 = N
    clear hN
    induction L1 with
    | nil => exact .nil
    | cons e L1 ih =>
      refine .cons ?_ (ih fun x hx => h x (List.mem_cons_of_mem _ hx))
      obtain ⟨as, r⟩ := rd e (h e List.mem_cons_self)
      have e0 := (reads_key _ _ _ r).2
      subst e0
      exact ⟨[], PyProof.Rows.Reads.keeps (fun b u z => Heap.get?_push_of_some _ (kp b u z)) r, by simp⟩
  have mem1 : ∀ e ∈ L1, e ∈ L := fun e he => p1.mem_iff.mp he
  have same : ∀ d, d ∈ (L1.map fun e => e.2.data) ↔ d ∈ (L.map fun e => e.2.data) := fun d => (p1.map _).mem_iff
  refine wpAny_bind (wpAny_holding (PySem.W.list_sort_data (s := { s1 with heap := s1.heap.push (seqObj "list" (L1.map fun e => Value.ref e.1).toArray 0) }) (enc := fun e => e.2.data) inn (each1 L1) (each2 L1 mem1) (fun d1 h1 d2 h2 => al d1 ((same d1).mp h1) d2 ((same d2).mp h2)) ?_ (by rw [sizeLine_eq]; omega)
    (fun e he => by have := dp e (mem1 e he); simp only [Around.in1_units]; omega) fun out ol oe => ?_))
  · rcases so with so | so
    · exact .inl fun d h => so d ((same d).mp h)
    · exact .inr fun d h => so d ((same d).mp h)
  · obtain ⟨c, hc⟩ := sortedHeap_at (vs := L1.map fun e => Value.ref e.1) (out := out.toArray) inn
    have eo : out = (byData L1).map fun e => Value.ref e.1 := by
      have : ∀ {xs : List Value} {ys : List (Addr × NestedKey)}, PySem.W.EachIs (fun v (e : Addr × NestedKey) => v = Value.ref e.1) xs ys → xs = ys.map fun e => Value.ref e.1 := by
        intro xs ys h
        induction h with
        | nil => rfl
        | cons h1 _ ih => rw [List.map_cons, h1, ih]
      exact this oe
    refine wpAny_pure ⟨_, rfl, hQ _ s1.heap.objs.size out c L1 (fun b u z => ?_) g1 o1 sz hc eo p1⟩
    have q := kp b u z
    have lt := Heap.lt_size q
    refine (sortedHeap_old (Nat.ne_of_lt lt) (by rw [size_push']; exact Nat.lt_succ_of_lt lt)).trans ?_
    exact Heap.get?_push_of_some _ q
end
structure Stand0 (P : Program) (w : World) (h : Heap) (S : Addr) (L : List (Addr × NestedKey)) : Prop where
  ex : ∃ o, h.get? S = some o
  full : ∃ es n t, ∀ h' : Heap, (∀ o, h.get? S = some o → h'.get? S = some o) → (∀ e ∈ L, (numKind P w).is h' e.2 e.1) → Stand (numKind P w) h' S L es n t
def KeySetO (P : Program) (w : World) (S : Addr) (L : List (Addr × NestedKey)) : HO := .ext fun h => Stand0 P w h S L
theorem Stand.light {P : Program} {w : World} {h : Heap} {S : Addr} {L : List (Addr × NestedKey)} {es : Array (Int × Value)} {n : Nat} {t : SetTable} (R : Stand (numKind P w) h S L es n t) : Stand0 P w h S L := by
  obtain ⟨o, ho, _⟩ := R.obj
  exact ⟨⟨o, ho⟩, es, n, t, fun h' k m => R.move k m⟩
theorem keySet_new {P : Program} {w : World} {H : Hp} {h : Heap} {S : Addr} {L : List (Addr × NestedKey)} (R : Stand0 P w h S L) : ObjOk P w H h S (KeySetO P w S L) := by
  refine ⟨R, R.ex, fun h1 h2 q k => ?_⟩
  obtain ⟨⟨o, ho⟩, es, n, t, f⟩ := q
  exact ⟨⟨o, k o ho⟩, es, n, t, fun h' k2 m => f h' (fun u hu => k2 u (k u hu)) m⟩
def KeyV (K : PySem.W.Frag) (H : Hp) (e : Addr × NestedKey) : Prop := Dp K H (.ref e.1) e.2.data ∧ e.2.depth ≤ 8 ∧ num e.2 = true
theorem KeyV.is {X : Cx} {pins : List (Addr × Obj)} {σ : L2.St} {H : Hp} {s : Shared} {e : Addr × NestedKey} (I : Inv X pins σ H s) (h : KeyV X.K H e) : (numKind X.prog X.w).is s.heap e.2 e.1 ∧ ∃ as, Reads s.heap (.ref e.1) e.2.data as := by
  obtain ⟨as, r⟩ := Dp.reads I _ _ (Value.ref e.1) h.1 (show RelV (.ref e.1) (.ref e.1) from rfl)
  exact ⟨⟨(reads_key _ _ _ r).1, h.2⟩, as, r⟩
def rKeySet (K : PySem.W.Frag) (P : Program) (w : World) : List V → Hp → VK → Prop := fun xs H Q => ∃ (a : Addr) (ks : List (Addr × NestedKey)), xs = [.ref a] ∧ SqT K H a (ks.map fun e => V.ref e.1) ∧ (∀ e ∈ ks, KeyV K H e) ∧ ks.length < 64 ∧
  ∀ S L, H S = none → (∀ e ∈ L, e ∈ ks) → (∀ e ∈ ks, e.2 ∈ L.map (·.2)) → (L.map (·.2)).Nodup → Q (.ref S) (upd H S (KeySetO P w S L))
def rSortedKeys (K : PySem.W.Frag) (P : Program) (w : World) : List V → Hp → VK → Prop := fun xs H Q => ∃ (a : Addr) (L : List (Addr × NestedKey)), xs = [.ref a] ∧ H a = some (KeySetO P w a L) ∧ (∀ e ∈ L, KeyV K H e) ∧
  PySem.W.AllAlike (L.map fun e => e.2.data) ∧ PySem.W.Sortable (L.map fun e => e.2.data) ∧ (∀ e ∈ L, e.2.data.depth ≤ 40) ∧
  ∀ L' p, L'.Perm L → H p = none → Q (.ref p) (upd H p (.lst ((byData L').map fun e => V.ref e.1)))
theorem vals_keys : ∀ {ks : List (Addr × NestedKey)} {us : List Value}, Vals (ks.map fun e => V.ref e.1) us → us = ks.map fun e => Value.ref e.1
  | [], _, .nil => rfl
  | e :: ks, _, .cons r t => by
    have r : _ = Value.ref e.1 := r
    rw [vals_keys t, r]
    rfl
theorem keys_vals : ∀ ks : List (Addr × NestedKey), Vals (ks.map fun e => V.ref e.1) (ks.map fun e => Value.ref e.1)
  | [] => .nil
  | _ :: ks => .cons rfl (keys_vals ks)
section
variable {X : Cx}
theorem cr_keySet (hc : X.calm = true) (hu : X.A.units + 64 < cLine) : CallR X (.type "set") (rKeySet X.K X.prog X.w) := by
  intro pins s σ H xs us Q I r h
  obtain ⟨a, ks, rfl, ht, hk, few, q⟩ := h
  rw [Vals.ref1 r]
  obtain ⟨its, rv, pl, _⟩ := I.tuple ht
  have new : H s.heap.objs.size = none := I.hok.fresh (Nat.le_refl _)
  refine set_of_tuple (G := numKind X.prog X.w) num_mute ks (I.ok.hd hc) pl (by simpa using vals_keys rv) (fun e he => (KeyV.is I (hk e he)).1) few (show _ + 8 < _ by simp only [Around.in1_units]; omega) fun h' tk L es n t R g kp => ?_
  refine ⟨.ref s.heap.objs.size, _, I.laid (t' := tk) kp (Nat.le_refl _) (keySet_new R.light), rfl, q _ L new (fun e he => List.mem_of_mem_take (g.from_ e he)) (fun e he => g.have_ e ?_) R.once⟩
  rw [List.take_length]
  exact he
theorem cr_sortedKeys (hc : X.calm = true) (hu : X.A.units + 64 < cLine) : CallR X (.builtin "sorted") (rSortedKeys X.K X.prog X.w) := by
  intro pins s σ H xs us Q I r h
  obtain ⟨a, L, rfl, ha, hk, al, so, dp, q⟩ := h
  have R0 : Stand0 X.prog X.w s.heap a L := (I.hok a _ ha).1
  obtain ⟨_, es, n, t, f⟩ := R0
  have R := f s.heap (fun _ z => z) fun e he => (KeyV.is I (hk e he)).1
  rw [Vals.ref1 r]
  refine sorted_keys R (I.ok.hd hc) (fun e he => (KeyV.is I (hk e he)).2) al so (by omega) dp fun s' p out c L' kp g o new at_ eo pm => ?_
  have few : L'.length < 64 := by rw [pm.length_eq]; exact R.small
  have hn : H p = none := I.hok.fresh new
  have J : Inv X pins σ (upd H p (.lst ((byData L').map fun e => V.ref e.1))) { s with heap := s'.heap, gens := s'.gens, drawn := s'.drawn, toks := s'.toks } :=
    I.call (ch := []) (Un.laid kp new hn) (I.hok.laid kp new ⟨by rw [List.length_map, List.length_mergeSort, sizeLine_eq]; omega, out, c, by rw [eo]; exact keys_vals _, at_⟩) (by rw [g]; exact I.bare) (fun _ z => nomatch z)
  have e : s' = { s with heap := s'.heap, gens := s'.gens, drawn := s'.drawn, toks := s'.toks } := by
    obtain ⟨h1, g1, d1, t1, o1⟩ := s'
    have o : o1 = s.os := o
    subst o
    rfl
  rw [e]
  exact ⟨.ref p, _, J, rfl, q L' p pm hn⟩
end
def lineK (l : Nat × Nat) : NestedKey := .tup [.tup ((bts l.1).map fun (u : Nat) => NestedKey.num (u : Int)), .num (l.2 : Int)]
theorem nums_data : ∀ ns : List Nat, NestedKey.datas (ns.map fun (u : Nat) => NestedKey.num (u : Int)) = (ns.map Int.ofNat).map .int
  | [] => rfl
  | n :: ns => by
    rw [List.map_cons, NestedKey.datas, nums_data ns]
    rfl
theorem nums_depth : ∀ ns : List Nat, NestedKey.depthAll (ns.map fun (u : Nat) => NestedKey.num (u : Int)) = 0
  | [] => rfl
  | n :: ns => by
    rw [List.map_cons, NestedKey.depthAll, nums_depth ns]
    rfl
theorem nums_num : ∀ ns : List Nat, nums (ns.map fun (u : Nat) => NestedKey.num (u : Int)) = true
  | [] => rfl
  | n :: ns => by
    rw [List.map_cons, nums, nums_num ns]
    rfl
theorem lineK_data (l : Nat × Nat) : (lineK l).data = lineD l := by
  unfold lineK lineD sumD
  rw [NestedKey.data, NestedKey.datas, NestedKey.datas, NestedKey.datas, NestedKey.data, NestedKey.data, nums_data]
theorem lineK_depth (l : Nat × Nat) : (lineK l).depth ≤ 8 := by
  unfold lineK
  rw [NestedKey.depth, NestedKey.depthAll, NestedKey.depthAll, NestedKey.depthAll, NestedKey.depth, NestedKey.depth, nums_depth]
  decide
theorem lineK_num (l : Nat × Nat) : num (lineK l) = true := by
  unfold lineK
  rw [num, nums, nums, nums, num, num, nums_num]
  rfl
theorem lineK_inj {l k : Nat × Nat} (hl : l.1 < 2 ^ 63) (hk : k.1 < 2 ^ 63) (e : lineK l = lineK k) : l = k := by
  have e := congrArg NestedKey.data e
  rw [lineK_data, lineK_data] at e
  unfold lineD sumD at e
  injection e with e
  injection e with e1 e
  injection e with e2 _
  injection e1 with e1
  injection e2 with e2
  refine Prod.ext ?_ (by omega)
  rw [List.map_map, List.map_map] at e1
  have e3 : bts l.1 = bts k.1 := by
    have inj : ∀ (a b : List Nat), a.map (PyData.int ∘ Int.ofNat) = b.map (PyData.int ∘ Int.ofNat) → a = b := by
      intro a
      induction a with
      | nil =>
        intro b h
        cases b with
        | nil => rfl
        | cons y b => cases h
      | cons x a ih =>
        intro b h
        cases b with
        | nil => cases h
        | cons y b =>
          rw [List.map_cons, List.map_cons] at h
          injection h with h1 h2
          have h1 : PyData.int (Int.ofNat x) = PyData.int (Int.ofNat y) := h1
          injection h1 with h1
          rw [Int.ofNat.inj h1, ih b h2]
    exact inj _ _ e1
  rw [← msk_bts hl, ← msk_bts hk, e3]
theorem lines_refs {K : PySem.W.Frag} {H : Hp} : ∀ {us : List V} {ls : List (Nat × Nat)}, Paired (LineV K H) us ls → ∃ cs : List (Addr × (Nat × Nat)), us = cs.map (fun c => V.ref c.1) ∧ ls = cs.map (·.2) ∧ ∀ c ∈ cs, LineV K H (.ref c.1) c.2
  | _, _, .nil => ⟨[], rfl, rfl, fun _ h => by cases h⟩
  | _, _, .cons h t => by
    obtain ⟨cs, rfl, rfl, hc⟩ := lines_refs t
    obtain ⟨a, r, rfl, h1, h2⟩ := h
    refine ⟨(a, _) :: cs, rfl, rfl, fun c m => ?_⟩
    rcases List.mem_cons.mp m with rfl | m
    · exact ⟨a, r, rfl, h1, h2⟩
    · exact hc c m
def keyed (c : Addr × (Nat × Nat)) : Addr × NestedKey := (c.1, lineK c.2)
theorem keyed_ok {K : PySem.W.Frag} {H : Hp} {c : Addr × (Nat × Nat)} (h : LineV K H (.ref c.1) c.2) : KeyV K H (keyed c) := by
  refine ⟨?_, lineK_depth _, lineK_num _⟩
  show Dp K H (.ref c.1) (lineK c.2).data
  rw [lineK_data]
  exact dp_line h
theorem keyed_back {cs : List (Addr × (Nat × Nat))} : ∀ L : List (Addr × NestedKey), (∀ e ∈ L, e ∈ cs.map keyed) → ∃ ds : List (Addr × (Nat × Nat)), L = ds.map keyed ∧ ∀ d ∈ ds, d ∈ cs
  | [], _ => ⟨[], rfl, fun _ h => by cases h⟩
  | e :: L, h => by
    obtain ⟨ds, rfl, hd⟩ := keyed_back L fun x hx => h x (List.mem_cons_of_mem _ hx)
    obtain ⟨c, hc, rfl⟩ := List.mem_map.mp (h e List.mem_cons_self)
    refine ⟨c :: ds, rfl, fun d m => ?_⟩
    rcases List.mem_cons.mp m with rfl | m
    · exact hc
    · exact hd d m
theorem keyed_facts {ds : List (Addr × (Nat × Nat))} : PySem.W.AllAlike ((ds.map keyed).map fun e => e.2.data) ∧ PySem.W.Sortable ((ds.map keyed).map fun e => e.2.data) ∧ ∀ e ∈ ds.map keyed, e.2.data.depth ≤ 40 := by
  have one : ∀ d ∈ (ds.map keyed).map (fun e => e.2.data), ∃ l, d = lineD l := fun d h => by
    obtain ⟨e, he, rfl⟩ := List.mem_map.mp h
    obtain ⟨c, _, rfl⟩ := List.mem_map.mp he
    exact ⟨c.2, lineK_data c.2⟩
  refine ⟨fun d1 h1 d2 h2 => ?_, .inl fun d h => ?_, fun e he => ?_⟩
  · obtain ⟨l, rfl⟩ := one d1 h1
    obtain ⟨k, rfl⟩ := one d2 h2
    exact alike_lineD l k
  · obtain ⟨l, rfl⟩ := one d h
    exact ⟨_, _, rfl⟩
  · obtain ⟨l, q⟩ := one _ (List.mem_map.mpr ⟨e, he, rfl⟩)
    rw [q, depth_lineD]
    decide
theorem canon_nodup {hs : List (Nat × Nat × Nat)} (F : FlatOk hs) : (canon hs).Nodup := by
  unfold canon
  refine List.Pairwise.map _ (fun a b h => h) ?_
  refine (List.pairwise_map.mp (srt_lt (hs.map (·.1)) |> fun k => by rw [← byHead_keys] at k; exact k)).imp_of_mem fun {a b} ha hb h => ?_
  intro z
  have la := F.least a ((byHead_perm F.red).mem_iff.mp ha)
  have lb := F.least b ((byHead_perm F.red).mem_iff.mp hb)
  rw [z, lb] at la
  have := Option.some.inj la
  omega
theorem clause_sorted {K : PySem.W.Frag} {H : Hp} {hs : List (Nat × Nat × Nat)} (F : FlatOk hs) {cs : List (Addr × (Nat × Nat))} (hc : canon hs = cs.map (·.2)) (hv : ∀ c ∈ cs, LineV K H (.ref c.1) c.2)
    {L L' : List (Addr × NestedKey)} (h1 : ∀ e ∈ L, e ∈ cs.map keyed) (h2 : ∀ e ∈ cs.map keyed, e.2 ∈ L.map (·.2)) (nd : (L.map (·.2)).Nodup) (p : L'.Perm L) : Paired (LineV K H) ((byData L').map fun e => V.ref e.1) (canon hs) := by
  obtain ⟨ds, rfl, hd⟩ := keyed_back L' fun e he => h1 e (p.mem_iff.mp he)
  have lt : ∀ c ∈ cs, c.2.1 < 2 ^ 63 := fun c hc' => (canon_lt F c.2 (by rw [hc]; exact List.mem_map.mpr ⟨c, hc', rfl⟩)).1
  have hv' : ∀ c ∈ ds.map (fun d => ((V.ref d.1, d.2) : V × (Nat × Nat))), LineV K H c.1 c.2 := fun c m => by
    obtain ⟨d, md, rfl⟩ := List.mem_map.mp m
    exact hv d (hd d md)
  have nd1 : (ds.map (·.2)).Nodup := by
    have q := (p.map (·.2)).nodup_iff.mpr nd
    rw [List.map_map] at q
    refine List.pairwise_map.mpr ((List.pairwise_map.mp q).imp fun {a b} h z => h ?_)
    show lineK a.2 = lineK b.2
    rw [z]
  have pm : (ds.map (·.2)).Perm (canon hs) := by
    refine (List.perm_ext_iff_of_nodup nd1 (canon_nodup F)).mpr fun l => ?_
    rw [hc]
    constructor
    · intro m
      obtain ⟨d, md, rfl⟩ := List.mem_map.mp m
      exact List.mem_map.mpr ⟨d, hd d md, rfl⟩
    · intro m
      obtain ⟨c, mc, rfl⟩ := List.mem_map.mp m
      have q := h2 (keyed c) (List.mem_map.mpr ⟨c, mc, rfl⟩)
      obtain ⟨e, me, z⟩ := List.mem_map.mp ((p.map (·.2)).mem_iff.mpr q)
      obtain ⟨d, md, rfl⟩ := List.mem_map.mp me
      have z : lineK d.2 = lineK c.2 := z
      have z := lineK_inj (lt d (hd d md)) (lt c mc) z
      exact List.mem_map.mpr ⟨d, md, z⟩
  have pm2 : ((ds.map fun d => ((V.ref d.1, d.2) : V × (Nat × Nat))).map (·.2)).Perm (hs.map (·.2)) := by
    rw [List.map_map]
    refine pm.trans ?_
    unfold canon
    exact (byHead_perm F.red).map (·.2)
  have r := sorted_lines F hv' pm2
  have e1 : (ds.map fun d => ((V.ref d.1, d.2) : V × (Nat × Nat))).map (fun c => ((c.1, lineD c.2) : V × PyData)) = (ds.map keyed).map fun e => ((V.ref e.1, e.2.data) : V × PyData) := by
    rw [List.map_map, List.map_map]
    refine List.map_congr_left fun d _ => ?_
    show (V.ref d.1, lineD d.2) = (V.ref d.1, (lineK d.2).data)
    rw [lineK_data]
  rw [e1, ← List.map_mergeSort (r := PySem.W.dataLe false fun e : Addr × NestedKey => e.2.data) (f := fun e : Addr × NestedKey => ((V.ref e.1, e.2.data) : V × PyData)) (fun _ _ _ _ => rfl), List.map_map] at r
  exact r
theorem nice_lines {ls : List (Nat × Nat)} (h : ∀ l ∈ ls, l.2 < 2) : nice (.list (ls.map lineD)) = true := niceAll_iff.mpr fun x hx => by
  obtain ⟨l, hl, rfl⟩ := List.mem_map.mp hx
  exact nice_line (h l hl)
theorem shaped_lines {ls : List (Nat × Nat)} (h : ∀ l ∈ ls, l.2 < 2) : SeqAt.shaped (.list (ls.map lineD)) = true ∧ PyData.eqv (.list (ls.map lineD)) (.list (ls.map lineD)) = true := by
  refine ⟨nice_shaped (nice_lines h) ?_, SeqAt.eqv_refl _ (nice_facts _ (nice_lines h)).1⟩
  rw [PyData.depth]
  have := depth_lines ls
  omega
end Es
set_option Elab.async false
set_option linter.all false
set_option maxRecDepth 100000
set_option maxHeartbeats 4000000
namespace Es
open PySem PySem.Spec PyProof.Rows L2
def sp_holds (K : PySem.W.Frag) : Sp := fun vs H Q _ => ∃ (v : V) (b : Addr) (l : Nat × Nat) (bs : List Nat), vs = [v, .ref b] ∧ LineV K H v l ∧ SqT K H b (iv bs) ∧ (∀ u ∈ bts l.1, u < bs.length) ∧
  ∀ H', Same H H' → Q (.bl (decide (wsum l.1 bs % 2 = l.2))) H'
def sp_is_in (K : PySem.W.Frag) : Sp := fun vs H Q _ => ∃ (t b : Addr) (us : List V) (ls : List (Nat × Nat)) (bs : List Nat), vs = [.ref t, .ref b] ∧ SqT K H t us ∧ Paired (LineV K H) us ls ∧ SqT K H b (iv bs) ∧ (∀ l ∈ ls, ∀ u ∈ bts l.1, u < bs.length) ∧
  ∀ H', Same H H' → Q (.bl (ls.all fun l => decide (wsum l.1 bs % 2 = l.2))) H'
def liesB (hs : List (Nat × Nat × Nat)) (ls : List (Nat × Nat)) : Bool := ls.all fun l => decide ((wh hs (l.1, 0)).1 = 0) && decide ((wh hs (l.1, 0)).2 = l.2)
def sp_lies_in (K : PySem.W.Frag) : Sp := fun vs H Q _ => ∃ (v : V) (t : Addr) (us : List V) (hs : List (Nat × Nat × Nat)) (ls : List (Nat × Nat)), vs = [v, .ref t] ∧ FlatV K H v hs ∧ FlatOk hs ∧ SqT K H t us ∧ Paired (LineV K H) us ls ∧ (∀ l ∈ ls, l.1 < 2 ^ 63 ∧ l.2 < 2) ∧
  ∀ H', Same H H' → Q (.bl (liesB hs ls)) H'
def sp_meet (K : PySem.W.Frag) : Sp := fun vs H Q _ => ∃ (v u : V) (hs gs : List (Nat × Nat × Nat)), vs = [v, u] ∧ FlatV K H v hs ∧ FlatOk hs ∧ FlatV K H u gs ∧ FlatOk gs ∧
  ∀ H' w, Same H H' → OptFlat K H' w (lflat (canon hs ++ canon gs)) → Q w H'
def sp_bits_many (K : PySem.W.Frag) : Sp := fun vs H Q _ => ∃ (n : Nat) (v : V) (hs : List (Nat × Nat × Nat)), vs = [.int (n : Int), v] ∧ FlatV K H v hs ∧ FlatOk hs ∧ hs.length ≤ n ∧ n ≤ 62 ∧ Q (.int ((2 ^ (n - hs.length) : Nat) : Int)) H
def bitsS (n s : Nat) : List Nat := (List.range n).map fun u => if s.testBit (n - 1 - u) = true then 1 else 0
def sp_law_bits (K : PySem.W.Frag) : Sp := fun vs H Q _ => ∃ (v : V) (n s : Nat), vs = [v, .int (s : Int)] ∧ RoomV K H v n ∧ n ≤ 7 ∧
  ∀ H' t, Same H H' → H t = none → SqT K H' t (iv (bitsS n s)) → Q (.ref t) H'
def sp_law_place (K : PySem.W.Frag) : Sp := fun vs H Q _ => ∃ (b : Addr) (bs : List Nat), vs = [.ref b] ∧ SqT K H b (iv bs) ∧ bs.length ≤ 12 ∧ (∀ x ∈ bs, x < 2) ∧
  Q (.int ((bs.foldl (fun x b => 2 * x + b) 0 : Nat) : Int)) H
def sp_law_wider (K : PySem.W.Frag) : Sp := fun vs H Q _ => ∃ (b c : Addr) (v : V) (hs : List (Nat × Nat × Nat)), vs = [.ref b, v] ∧ BagAt K H b c ∧ FlatV K H v hs ∧ FlatOk hs ∧
  ∀ H' w gs, But b H H' → BagAt K H' b c → FlatV K H' w gs → FlatOk gs → (∀ e ∈ gs, e ∈ hs) → Q w H'
theorem paired_append {α β : Type} {R : α → β → Prop} : ∀ {xs : List α} {ys : List β} {zs : List α} {ws : List β}, PySem.Paired R xs ys → PySem.Paired R zs ws → PySem.Paired R (xs ++ zs) (ys ++ ws)
  | _, _, _, _, .nil, k => k
  | _, _, _, _, .cons h t, k => .cons h (paired_append t k)
theorem bitsS_len (n s : Nat) : (bitsS n s).length = n := by simp [bitsS]
theorem flat_len {hs : List (Nat × Nat × Nat)} (F : FlatOk hs) : (canon hs).length = hs.length := by
  unfold canon
  rw [List.length_map]
  exact (byHead_perm F.red).length_eq
theorem part_flat {hs gs : List (Nat × Nat × Nat)} (F : FlatOk hs) (h : gs.Sublist (byHead hs)) : FlatOk gs ∧ canon gs = gs.map (·.2) ∧ ∀ e ∈ gs, e ∈ hs := by
  have mem : ∀ e ∈ gs, e ∈ hs := fun e he => (byHead_perm F.red).mem_iff.mp (h.subset he)
  have ks := srt_lt (hs.map (·.1))
  rw [← byHead_keys] at ks
  have kg : (gs.map (·.1)).Pairwise (· < ·) := ks.sublist (h.map _)
  have R : RedOk gs := ⟨kg.imp fun z => Nat.ne_of_lt z, fun e he => F.red.own e (mem e he), fun e he x hx n => by
    obtain ⟨g, hg, rfl⟩ := List.mem_map.mp hx
    exact F.red.oth e (mem e he) g.1 (List.mem_map.mpr ⟨g, mem g hg, rfl⟩) n⟩
  refine ⟨⟨R, fun e he => F.least e (mem e he), fun e he => F.bit e (mem e he)⟩, ?_, mem⟩
  unfold canon
  have e : byHead gs = gs := by
    refine List.Perm.eq_of_pairwise (le := fun a b : Nat × Nat × Nat => a.1 < b.1) ?_ ?_ ?_ (byHead_perm R)
    · intro a b _ _ h1 h2
      omega
    · have k2 := srt_lt (gs.map (·.1))
      rw [← byHead_keys, List.pairwise_map] at k2
      exact k2
    · rw [List.pairwise_map] at kg
      exact kg
  rw [e]
theorem least_bit {x : Nat} (h : x ≠ 0) : ∃ l, x.testBit l = true ∧ ∀ j, j < l → x.testBit j = false := by
  obtain ⟨k, hk⟩ := Nat.exists_testBit_of_ne_zero h
  induction k using Nat.strongRecOn with
  | ind k ih =>
    by_cases z : ∃ j, j < k ∧ x.testBit j = true
    · obtain ⟨j, hj, e⟩ := z
      exact ih j hj e
    · refine ⟨k, hk, fun j hj => ?_⟩
      cases q : x.testBit j with
      | false => rfl
      | true => exact absurd ⟨j, hj, q⟩ z
theorem and_pred {x l : Nat} (h2 : x.testBit l = true) (h3 : ∀ j, j < l → x.testBit j = false) (j : Nat) : (x &&& (x - 1)).testBit j = (x.testBit j && decide (j ≠ l)) := by
  have z : x % 2 ^ l = 0 := by
    refine Nat.eq_of_testBit_eq fun j => ?_
    rw [Nat.testBit_mod_two_pow, Nat.zero_testBit]
    by_cases hj : j < l
    · rw [h3 j hj, Bool.and_false]
    · rw [decide_eq_false hj, Bool.false_and]
  have o : x / 2 ^ l % 2 = 1 := by
    have := h2
    rw [Nat.testBit_eq_decide_div_mod_eq] at this
    exact of_decide_eq_true this
  have p0 : 0 < 2 ^ l := Nat.two_pow_pos l
  obtain ⟨q, hq⟩ : ∃ q, x / 2 ^ l = 2 * q + 1 := ⟨x / 2 ^ l / 2, by omega⟩
  have ex : x = 2 ^ l * (2 * q + 1) := by
    have := Nat.div_add_mod x (2 ^ l)
    rw [z, hq] at this
    omega
  have e0 : x - 1 = 2 ^ l * (2 * q) + (2 ^ l - 1) := by
    rw [ex, Nat.mul_add, Nat.mul_one]
    omega
  have d1 : (x - 1) / 2 ^ l = 2 * q := by
    rw [e0, Nat.mul_add_div p0, Nat.div_eq_of_lt (by omega), Nat.add_zero]
  rw [Nat.testBit_and]
  rcases Nat.lt_trichotomy j l with hj | rfl | hj
  · rw [h3 j hj]
    rfl
  · have : (x - 1).testBit j = false := by
      rw [Nat.testBit_eq_decide_div_mod_eq, d1]
      exact decide_eq_false (by omega)
    rw [this, Bool.and_false, decide_eq_false (fun h => h rfl), Bool.and_false]
  · obtain ⟨i, rfl⟩ : ∃ i, j = l + 1 + i := ⟨j - (l + 1), by omega⟩
    have t1 : x.testBit (l + 1 + i) = q.testBit i := by
      rw [Nat.add_comm (l + 1) i, ← Nat.testBit_div_two_pow]
      congr 1
      rw [Nat.pow_succ, ← Nat.div_div_eq_div_mul, hq]
      omega
    have t2 : (x - 1).testBit (l + 1 + i) = q.testBit i := by
      rw [Nat.add_comm (l + 1) i, ← Nat.testBit_div_two_pow]
      congr 1
      rw [Nat.pow_succ, ← Nat.div_div_eq_div_mul, d1]
      omega
    rw [t1, t2, Bool.and_self, decide_eq_true (by omega), Bool.and_true]
def BitsV (K : PySem.W.Frag) (n : Nat) (H : Hp) (v : V) (s : Nat) : Prop := ∃ t, v = .ref t ∧ SqT K H t (iv (bitsS n s))
theorem BitsV.same {K : PySem.W.Frag} {n : Nat} {H H' : Hp} {v : V} {s : Nat} (sm : Same H H') (h : BitsV K n H v s) : BitsV K n H' v s := by
  obtain ⟨t, rfl, h⟩ := h
  exact ⟨t, rfl, sqT_same sm h⟩
theorem BitsV.but {K : PySem.W.Frag} {n : Nat} {H H' : Hp} {b : Addr} {ys : List V} {v : V} {s : Nat} (hb : H b = some (.lst ys)) (sm : But b H H') (h : BitsV K n H v s) : BitsV K n H' v s := by
  obtain ⟨t, rfl, h⟩ := h
  exact ⟨t, rfl, sqT_but hb sm h⟩
def sp_law_least (K : PySem.W.Frag) : Sp := fun vs H Q _ => ∃ (v : V) (n x : Nat), vs = [v, .int (x : Int)] ∧ RoomV K H v n ∧ n ≤ 7 ∧ (x = 0 → Q .non H) ∧
  (∀ s, x.testBit s = true → (∀ j, j < s → x.testBit j = false) → ∀ H' u, Same H H' → BitsV K n H' u s → Q u H')
def sp_law_listed (K : PySem.W.Frag) : Sp := fun vs H Q _ => ∃ (v : V) (n x : Nat), vs = [v, .int (x : Int)] ∧ RoomV K H v n ∧ n ≤ 7 ∧ x < 2 ^ 2 ^ n ∧
  ∀ H' p us, Same H H' → H p = none → H' p = some (.lst us) → Paired (BitsV K n H') us ((List.range (2 ^ n)).filter fun s => x.testBit s) → Q (.ref p) H'
theorem holds_flip {m b : Nat} {f : Nat → Bool} (hb : b < 2) : holdsL (m, 1 - b) f ↔ ¬ holdsL (m, b) f := by
  unfold holdsL
  have h : b = 0 ∨ b = 1 := by omega
  rcases h with rfl | rfl <;> cases par m f <;> simp
theorem lies_iff {hs gs : List (Nat × Nat × Nat)} (F : FlatOk hs) (FG : FlatOk gs) : liesB hs (canon gs) = true ↔ ∀ f, sol hs f → sol gs f := by
  unfold liesB
  rw [List.all_eq_true]
  constructor
  · intro h f s
    refine (all_canon FG f).mp (List.all_eq_true.mpr fun l hl => holdsB_iff.mpr ?_)
    have l2 := (canon_lt FG l hl).2
    have h1 := h l hl
    rw [Bool.and_eq_true, decide_eq_true_eq, decide_eq_true_eq] at h1
    obtain ⟨w1, w2⟩ := wh_row hs l.1 0 l.2
    have z : (wh hs (l.1, l.2)).1 = 0 := by rw [← w1]; exact h1.1
    refine (flat_told F (l := (l.1, l.2)) l2 z s).mpr ?_
    rw [h1.2, Nat.xor_self, Nat.xor_zero] at w2
    exact w2.symm
  · intro h l hl
    obtain ⟨l63, l2⟩ := canon_lt FG l hl
    have on : ∀ f, sol hs f → holdsL l f := fun f s => holdsB_iff.mp (List.all_eq_true.mp ((all_canon FG f).mpr (h f s)) l hl)
    rw [Bool.and_eq_true, decide_eq_true_eq, decide_eq_true_eq]
    have z : (wh hs (l.1, 0)).1 = 0 := by
      refine Classical.byContradiction fun nz => ?_
      obtain ⟨f, s1, s2⟩ := flat_free F (l := (l.1, 1 - l.2)) l63 (by show 1 - l.2 < 2; omega) (by rw [← (wh_row hs l.1 0 (1 - l.2)).1]; exact nz)
      exact (holds_flip l2).mp s2 (on f s1)
    refine ⟨z, ?_⟩
    obtain ⟨f, s⟩ := flat_has F
    obtain ⟨w1, w2⟩ := wh_row hs l.1 0 l.2
    have z2 : (wh hs (l.1, l.2)).1 = 0 := by rw [← w1]; exact z
    have h0 := (flat_told F (l := (l.1, l.2)) l2 z2 s).mp (on f s)
    rw [h0, Nat.xor_zero] at w2
    have r2 := wh_bit F.bit (l.1, 0) (by show 0 < 2; decide)
    have h1 : (wh hs (l.1, 0)).2 = 0 ∨ (wh hs (l.1, 0)).2 = 1 := by omega
    have h2 : l.2 = 0 ∨ l.2 = 1 := by omega
    rcases h1 with h1 | h1 <;> rcases h2 with h2 | h2 <;> rw [h1, h2] at w2 ⊢ <;> first | rfl | exact absurd w2 (by decide)
theorem meet_sol {hs gs : List (Nat × Nat × Nat)} (F : FlatOk hs) (FG : FlatOk gs) (f : Nat → Bool) : (∀ l ∈ canon hs ++ canon gs, holdsL l f) ↔ sol hs f ∧ sol gs f := by
  rw [← all_canon F f, ← all_canon FG f, List.all_eq_true, List.all_eq_true]
  constructor
  · exact fun h => ⟨fun l hl => holdsB_iff.mpr (h l (List.mem_append_left _ hl)), fun l hl => holdsB_iff.mpr (h l (List.mem_append_right _ hl))⟩
  · rintro ⟨h1, h2⟩ l hl
    rcases List.mem_append.mp hl with hl | hl
    · exact holdsB_iff.mp (h1 l hl)
    · exact holdsB_iff.mp (h2 l hl)
theorem meet_lt {hs gs : List (Nat × Nat × Nat)} (F : FlatOk hs) (FG : FlatOk gs) : ∀ l ∈ canon hs ++ canon gs, l.1 < 2 ^ 63 ∧ l.2 < 2 := fun l hl => by
  rcases List.mem_append.mp hl with hl | hl
  · exact canon_lt F l hl
  · exact canon_lt FG l hl
theorem within_iff {hs gs : List (Nat × Nat × Nat)} (F : FlatOk hs) (FG : FlatOk gs) {n x y : Nat} (lh : ∀ e ∈ hs, e.2.1 < 2 ^ n) (lg : ∀ e ∈ gs, e.2.1 < 2 ^ n)
    (hx : BitsOf (2 ^ n) x (fun s => (canon hs).all fun l => holdsB l (fS n s))) (hy : BitsOf (2 ^ n) y (fun s => (canon gs).all fun l => holdsB l (fS n s))) : x &&& y = x ↔ liesB hs (canon gs) = true := by
  rw [lies_iff F FG]
  constructor
  · intro e f s
    obtain ⟨k, k1, k2⟩ := holds_num (n := n) f
    have h1 : sol hs (fS n k) := fun e he => (k2 e.2 (lh e he)).mpr (s e he)
    have h2 := hx.2 k k1
    have h3 : x.testBit k = true := h2.trans ((all_canon F _).mpr h1)
    rw [← e, Nat.testBit_and, Bool.and_eq_true] at h3
    have h4 := (all_canon FG (fS n k)).mp ((hy.2 k k1).symm.trans h3.2)
    exact fun e he => (k2 e.2 (lg e he)).mp (h4 e he)
  · intro h
    refine (hx.and hy).uniq (hx.congr fun s _ => ?_)
    rw [Bool.eq_iff_iff, Bool.and_eq_true, all_canon F, all_canon FG]
    exact ⟨fun z => ⟨z, h _ z⟩, fun z => z.1⟩
def sp_law_are_two_right (K : PySem.W.Frag) : Sp := fun vs H Q _ => ∃ (v w u : V) (n : Nat) (hs gs : List (Nat × Nat × Nat)), vs = [v, w, u] ∧ RoomV K H v n ∧ n ≤ 7 ∧ FlatV K H w hs ∧ FlatOk hs ∧ (∀ e ∈ hs, e.2.1 < 2 ^ n) ∧ FlatV K H u gs ∧ FlatOk gs ∧ (∀ e ∈ gs, e.2.1 < 2 ^ n) ∧
  ∀ H', Same H H' → Q (.bl true) H'
end Es
set_option Elab.async false
set_option linter.all false
set_option maxRecDepth 100000
set_option maxHeartbeats 4000000
namespace Es
open PySem PySem.Spec PyProof.Rows L2
theorem par_low {m u : Nat} (hm : m < 2 ^ 63) (hl : low m = some u) (f : Nat → Bool) : par m f = (f u ^^ par (m >>> (u + 1)) (fun i => f (u + 1 + i))) := by
  obtain ⟨u63, bu, below⟩ := low_iff.mp hl
  have e : bts m = u :: (bts (m >>> (u + 1))).map fun i => u + 1 + i := by
    refine (bts_of ?_ fun v => ?_).symm
    · refine List.pairwise_cons.mpr ⟨fun v hv => ?_, ?_⟩
      · obtain ⟨i, _, rfl⟩ := List.mem_map.mp hv
        show u < u + 1 + i
        omega
      · exact List.pairwise_map.mpr ((bts_lt _).imp fun {a b} h => by omega)
    · rw [List.mem_cons, List.mem_map]
      constructor
      · rintro (rfl | ⟨i, hi, rfl⟩)
        · exact ⟨u63, bu⟩
        · have := (mem_bts.mp hi).2
          rw [Nat.testBit_shiftRight] at this
          refine ⟨?_, this⟩
          refine Nat.lt_of_not_le fun z => ?_
          rw [bit_ge hm z] at this
          cases this
      · rintro ⟨v63, bv⟩
        by_cases z : v = u
        · exact .inl z
        · refine .inr ⟨v - (u + 1), ?_, ?_⟩
          · have : u < v := by
              refine Nat.lt_of_le_of_ne (Nat.le_of_not_lt fun y => ?_) (Ne.symm z)
              rw [below v y] at bv
              cases bv
            refine mem_bts.mpr ⟨by omega, ?_⟩
            rw [Nat.testBit_shiftRight, show u + 1 + (v - (u + 1)) = v by omega]
            exact bv
          · have : ¬ v < u := fun y => by
              rw [below v y] at bv
              cases bv
            omega
  rw [par_bts, par_bts, e, List.foldl_cons, List.foldl_map, Bool.false_xor]
  have go : ∀ (L : List Nat) (b c : Bool), L.foldl (fun b i => b ^^ f (u + 1 + i)) (b ^^ c) = (b ^^ L.foldl (fun b i => b ^^ f (u + 1 + i)) c) := by
    intro L
    induction L with
    | nil => intro b c; rfl
    | cons i L ih =>
      intro b c
      rw [List.foldl_cons, List.foldl_cons, ← ih, Bool.xor_assoc]
  have h := go (bts (m >>> (u + 1))) (f u) false
  rw [Bool.xor_false] at h
  exact h
def G8 (m s : Nat) : Nat → Bool := fun i => decide (i < m) && s.testBit (m - 1 - i)
theorem fS_G8 {n u s : Nat} (hu : u < n) (i : Nat) : fS n s (u + 1 + i) = G8 (n - 1 - u) s i := by
  unfold fS G8
  have e : n - 1 - (u + 1 + i) = n - 1 - u - 1 - i := by omega
  rw [e]
  congr 1
  rw [decide_eq_decide]
  omega
def aheadB (n : Nat) (p : Nat × Nat) (u s : Nat) : Bool := decide (p.2 = 1) ^^ par (p.1 >>> (u + 1)) (G8 (n - 1 - u) s)
def topN (m : Nat) (b : Bool) : Nat := if b = true then 2 ^ m else 0
theorem top_bit {m s : Nat} (hs : s < 2 ^ m) (b : Bool) (j : Nat) : (topN m b + s).testBit j = if j = m then b else s.testBit j := by
  unfold topN
  cases b with
  | false =>
    rw [if_neg Bool.false_ne_true, Nat.zero_add]
    by_cases z : j = m
    · rw [if_pos z, z, Nat.testBit_lt_two_pow hs]
    · rw [if_neg z]
  | true =>
    rw [if_pos rfl]
    by_cases z : j = m
    · rw [if_pos z, z, Nat.testBit_two_pow_add_eq, Nat.testBit_lt_two_pow hs]
      rfl
    · rw [if_neg z]
      rcases Nat.lt_or_ge j m with y | y
      · exact Nat.testBit_two_pow_add_gt y s
      · rw [Nat.testBit_lt_two_pow (show 2 ^ m + s < 2 ^ j from Nat.lt_of_lt_of_le (show 2 ^ m + s < 2 ^ (m + 1) by rw [Nat.pow_succ]; omega) (Nat.pow_le_pow_right (by decide) (by omega))),
          Nat.testBit_lt_two_pow (Nat.lt_of_lt_of_le hs (Nat.pow_le_pow_right (by decide) y))]
theorem top_lt {m s : Nat} (hs : s < 2 ^ m) (b : Bool) : topN m b + s < 2 ^ (m + 1) := by
  unfold topN
  rw [Nat.pow_succ]
  split <;> omega
theorem fS_top {n u s : Nat} (hu : u < n) (hs : s < 2 ^ (n - 1 - u)) (b : Bool) (v : Nat) : fS n (topN (n - 1 - u) b + s) v = if v = u then b else fS n s v := by
  unfold fS
  rw [top_bit hs]
  by_cases z : v = u
  · subst z
    rw [if_pos rfl, if_pos rfl, decide_eq_true hu, Bool.true_and]
  · rw [if_neg z]
    by_cases y : v < n
    · rw [if_neg (by omega)]
    · rw [decide_eq_false y, Bool.false_and, Bool.false_and]
theorem par_above {m a : Nat} (hm : m < 2 ^ 63) (ha : low m = some a) {f g : Nat → Bool} (h : ∀ v, a ≤ v → f v = g v) : par m f = par m g := by
  rw [par_low hm ha, par_low hm ha, h a (Nat.le_refl _)]
  congr 2
  funext i
  exact h _ (by omega)
def Ss (n : Nat) (hs : List (Nat × Nat × Nat)) : Nat → List Nat
  | 0 => [0]
  | m + 1 => match look hs (n - 1 - m) with
    | some p => (Ss n hs m).map fun s => topN m (aheadB n p (n - 1 - m) s) + s
    | none => (Ss n hs m).flatMap fun s => [topN m false + s, topN m true + s]
theorem Ss_mem {n : Nat} {hs : List (Nat × Nat × Nat)} (F : FlatOk hs) (hlt : ∀ e ∈ hs, e.2.1 < 2 ^ n) : ∀ m, m ≤ n → ∀ s, s ∈ Ss n hs m ↔ s < 2 ^ m ∧ ∀ e ∈ hs, n - m ≤ e.1 → holdsL e.2 (fS n s)
  | 0, _, s => by
    rw [Ss, List.mem_singleton]
    constructor
    · rintro rfl
      refine ⟨by decide, fun e he h => ?_⟩
      have bt := (low_iff.mp (F.least e he)).2.1
      have := hlt e he
      rw [Nat.testBit_lt_two_pow (Nat.lt_of_lt_of_le this (Nat.pow_le_pow_right (by decide) (show n ≤ e.1 by omega)))] at bt
      cases bt
    · intro h
      omega
  | m + 1, hm, s => by
    have ih := Ss_mem F hlt m (by omega)
    have hu : n - 1 - m < n := by omega
    have em : n - 1 - (n - 1 - m) = m := by omega
    have cutS : ∀ s, s < 2 ^ (m + 1) → ∃ b t, t < 2 ^ m ∧ s = topN m b + t := fun s hs' => by
      by_cases z : 2 ^ m ≤ s
      · exact ⟨true, s - 2 ^ m, by rw [Nat.pow_succ] at hs'; omega, by unfold topN; rw [if_pos rfl]; omega⟩
      · exact ⟨false, s, by omega, by unfold topN; rw [if_neg Bool.false_ne_true]; omega⟩
    have above : ∀ e ∈ hs, n - 1 - m < e.1 → ∀ b t, t < 2 ^ m → (holdsL e.2 (fS n (topN m b + t)) ↔ holdsL e.2 (fS n t)) := fun e he h b t ht => by
      unfold holdsL
      rw [par_above (F.red.own e he).2.1 (F.least e he) (f := fS n (topN m b + t)) (g := fS n t) fun v hv => ?_]
      have q := fS_top (n := n) hu (s := t) (by rw [em]; exact ht) b v
      rw [em] at q
      rw [q, if_neg (by omega)]
    rw [Ss]
    cases q : look hs (n - 1 - m) with
    | some p =>
      dsimp only
      have he0 : (n - 1 - m, p) ∈ hs := look_mem q
      have at0 : ∀ b t, t < 2 ^ m → (holdsL p (fS n (topN m b + t)) ↔ b = aheadB n p (n - 1 - m) t) := fun b t ht => by
        unfold holdsL aheadB
        have h1 := fS_top (n := n) hu (s := t) (by rw [em]; exact ht) b
        rw [em] at h1
        rw [par_low (F.red.own _ he0).2.1 (F.least _ he0)]
        show (fS n (topN m b + t) (n - 1 - m) ^^ par (p.1 >>> (n - 1 - m + 1)) fun i => fS n (topN m b + t) (n - 1 - m + 1 + i)) = _ ↔ _
        have e2 : (fun i => fS n (topN m b + t) (n - 1 - m + 1 + i)) = G8 (n - 1 - (n - 1 - m)) t := by
          funext i
          rw [h1, if_neg (by omega), fS_G8 hu]
        rw [h1, if_pos rfl, e2]
        generalize par (p.1 >>> (n - 1 - m + 1)) (G8 (n - 1 - (n - 1 - m)) t) = z
        cases b <;> cases z <;> cases decide (p.2 = 1) <;> simp
      rw [List.mem_map]
      constructor
      · rintro ⟨t, ht, rfl⟩
        obtain ⟨t1, t2⟩ := (ih t).mp ht
        refine ⟨top_lt t1 _, fun e he h => ?_⟩
        by_cases z : e.1 = n - 1 - m
        · have : e = (n - 1 - m, p) := by
            have := look_of F.red.nd he
            rw [z, q] at this
            exact Prod.ext z (Option.some.inj this).symm
          rw [this]
          exact (at0 _ t t1).mpr rfl
        · exact (above e he (by omega) _ t t1).mpr (t2 e he (by omega))
      · rintro ⟨h1, h2⟩
        obtain ⟨b, t, ht, rfl⟩ := cutS s h1
        refine ⟨t, (ih t).mpr ⟨ht, fun e he h => (above e he (by omega) b t ht).mp (h2 e he (by omega))⟩, ?_⟩
        have hb := (at0 b t ht).mp (h2 (n - 1 - m, p) he0 (show n - (m + 1) ≤ n - 1 - m by omega))
        exact congrArg (fun c => topN m c + t) hb.symm
    | none =>
      dsimp only
      have no := look_none.mp q
      have ne : ∀ e ∈ hs, e.1 ≠ n - 1 - m := fun e he z => no (List.mem_map.mpr ⟨e, he, z⟩)
      rw [List.mem_flatMap]
      constructor
      · rintro ⟨t, ht, h⟩
        obtain ⟨t1, t2⟩ := (ih t).mp ht
        obtain ⟨b, rfl⟩ : ∃ b, s = topN m b + t := by
          rcases List.mem_cons.mp h with h | h
          · exact ⟨false, h⟩
          · exact ⟨true, List.mem_singleton.mp h⟩
        exact ⟨top_lt t1 _, fun e he h => (above e he (by have := ne e he; omega) b t t1).mpr (t2 e he (by have := ne e he; omega))⟩
      · rintro ⟨h1, h2⟩
        obtain ⟨b, t, ht, rfl⟩ := cutS s h1
        refine ⟨t, (ih t).mpr ⟨ht, fun e he h => (above e he (by have := ne e he; omega) b t ht).mp (h2 e he (by omega))⟩, ?_⟩
        cases b
        · exact List.mem_cons_self
        · exact List.mem_cons_of_mem _ List.mem_cons_self
theorem top_inj {m s t : Nat} (hs : s < 2 ^ m) (ht : t < 2 ^ m) {b c : Bool} (e : topN m b + s = topN m c + t) : b = c ∧ s = t := by
  unfold topN at e
  cases b <;> cases c <;> simp at e <;> first | exact ⟨rfl, by omega⟩ | (exfalso; omega)
theorem Ss_nodup {n : Nat} {hs : List (Nat × Nat × Nat)} (F : FlatOk hs) (hlt : ∀ e ∈ hs, e.2.1 < 2 ^ n) : ∀ m, m ≤ n → (Ss n hs m).Nodup
  | 0, _ => by rw [Ss]; exact List.pairwise_singleton _ _
  | m + 1, hm => by
    have ih := Ss_nodup F hlt m (by omega)
    have lt : ∀ s ∈ Ss n hs m, s < 2 ^ m := fun s h => ((Ss_mem F hlt m (by omega) s).mp h).1
    rw [Ss]
    cases q : look hs (n - 1 - m) with
    | some p =>
      dsimp only
      exact List.pairwise_map.mpr (ih.imp_of_mem fun {a b} ha hb ne e => ne (top_inj (lt a ha) (lt b hb) e).2)
    | none =>
      dsimp only
      generalize Ss n hs m = L at ih lt
      induction L with
      | nil => exact List.nodup_nil
      | cons s L ihL =>
        rw [List.flatMap_cons]
        obtain ⟨n1, n2⟩ := List.nodup_cons.mp ih
        have ls := lt s List.mem_cons_self
        refine List.nodup_append.mpr ⟨?_, ihL n2 fun x hx => lt x (List.mem_cons_of_mem _ hx), fun x hx y hy e => ?_⟩
        · refine List.nodup_cons.mpr ⟨fun z => ?_, List.pairwise_singleton _ _⟩
          have := (top_inj ls ls (List.mem_singleton.mp z)).1
          cases this
        · obtain ⟨t, ht, h⟩ := List.mem_flatMap.mp hy
          have lt' := lt t (List.mem_cons_of_mem _ ht)
          obtain ⟨b, rfl⟩ : ∃ b, x = topN m b + s := by
            rcases List.mem_cons.mp hx with h | h
            · exact ⟨false, h⟩
            · exact ⟨true, List.mem_singleton.mp h⟩
          obtain ⟨c, rfl⟩ : ∃ c, y = topN m c + t := by
            rcases List.mem_cons.mp h with h | h
            · exact ⟨false, h⟩
            · exact ⟨true, List.mem_singleton.mp h⟩
          exact n1 ((top_inj ls lt' e).2 ▸ ht)
def hcnt (n : Nat) (hs : List (Nat × Nat × Nat)) (m : Nat) : Nat := ((List.range m).filter fun j => (look hs (n - 1 - j)).isSome).length
theorem Ss_len {n : Nat} (hs : List (Nat × Nat × Nat)) : ∀ m, (Ss n hs m).length * 2 ^ hcnt n hs m = 2 ^ m
  | 0 => by rw [Ss]; rfl
  | m + 1 => by
    have ih := Ss_len (n := n) hs m
    have hc : hcnt n hs (m + 1) = hcnt n hs m + (if (look hs (n - 1 - m)).isSome = true then 1 else 0) := by
      unfold hcnt
      rw [List.range_succ, List.filter_append, List.length_append]
      congr 1
      cases q : (look hs (n - 1 - m)).isSome <;> simp [q]
    rw [hc, Ss]
    cases q : look hs (n - 1 - m) with
    | some p =>
      dsimp only
      rw [List.length_map, Option.isSome_some, if_pos rfl, Nat.pow_succ, ← Nat.mul_assoc, ih, Nat.pow_succ]
    | none =>
      dsimp only
      rw [Option.isSome_none, if_neg Bool.false_ne_true, Nat.add_zero, Nat.pow_succ, ← ih]
      have : ((Ss n hs m).flatMap fun s => [topN m false + s, topN m true + s]).length = (Ss n hs m).length * 2 := by
        generalize Ss n hs m = L
        induction L with
        | nil => rfl
        | cons s L ihL =>
          rw [List.flatMap_cons, List.length_append, ihL, List.length_cons]
          show 2 + L.length * 2 = (L.length + 1) * 2
          omega
      rw [this, Nat.mul_assoc, Nat.mul_assoc, Nat.mul_comm 2]
theorem hcnt_all {n : Nat} {hs : List (Nat × Nat × Nat)} (F : FlatOk hs) (hlt : ∀ e ∈ hs, e.2.1 < 2 ^ n) : hcnt n hs n = hs.length := by
  unfold hcnt
  have p : ((List.range n).filter fun j => (look hs (n - 1 - j)).isSome).Perm ((hs.map (·.1)).map fun h => n - 1 - h) := by
    have below : ∀ e ∈ hs, e.1 < n := fun e he => by
      refine Nat.lt_of_not_le fun z => ?_
      have bt := (low_iff.mp (F.least e he)).2.1
      rw [Nat.testBit_lt_two_pow (Nat.lt_of_lt_of_le (hlt e he) (Nat.pow_le_pow_right (by decide) z))] at bt
      cases bt
    refine (List.perm_ext_iff_of_nodup (List.Pairwise.filter _ List.nodup_range) ?_).mpr fun j => ?_
    · refine List.pairwise_map.mpr (F.red.nd.imp_of_mem fun {a b} ha hb ne e => ne ?_)
      obtain ⟨x, hx, rfl⟩ := List.mem_map.mp ha
      obtain ⟨y, hy, rfl⟩ := List.mem_map.mp hb
      have := below x hx
      have := below y hy
      omega
    · rw [List.mem_filter, List.mem_range, List.mem_map]
      constructor
      · rintro ⟨h1, h2⟩
        obtain ⟨p, hp⟩ := Option.isSome_iff_exists.mp h2
        exact ⟨n - 1 - j, List.mem_map.mpr ⟨_, look_mem hp, rfl⟩, by omega⟩
      · rintro ⟨h, hh, rfl⟩
        obtain ⟨e, he, rfl⟩ := List.mem_map.mp hh
        have := below e he
        refine ⟨by omega, ?_⟩
        rw [show n - 1 - (n - 1 - e.1) = e.1 by omega, look_of F.red.nd he]
        rfl
  rw [p.length_eq, List.length_map, List.length_map]
theorem bitsS_cons {m s : Nat} (hs : s < 2 ^ m) (b : Bool) : bitsS (m + 1) (topN m b + s) = (if b = true then 1 else 0) :: bitsS m s := by
  unfold bitsS
  rw [List.range_succ_eq_map, List.map_cons, List.map_map]
  congr 1
  · rw [show m + 1 - 1 - 0 = m by omega, top_bit hs, if_pos rfl]
  · refine List.map_congr_left fun u hu => ?_
    have hu := List.mem_range.mp hu
    show (if (topN m b + s).testBit (m + 1 - 1 - (u + 1)) = true then 1 else 0) = _
    rw [top_bit hs, if_neg (show ¬ m + 1 - 1 - (u + 1) = m by omega), show m + 1 - 1 - (u + 1) = m - 1 - u by omega]
theorem top_split {m s : Nat} (h : s < 2 ^ (m + 1)) : ∃ b t, t < 2 ^ m ∧ s = topN m b + t := by
  by_cases z : 2 ^ m ≤ s
  · exact ⟨true, s - 2 ^ m, by rw [Nat.pow_succ] at h; omega, by unfold topN; rw [if_pos rfl]; omega⟩
  · exact ⟨false, s, by omega, by unfold topN; rw [if_neg Bool.false_ne_true]; omega⟩
def bitsD (n s : Nat) : PyData := .tuple (((bitsS n s).map Int.ofNat).map .int)
theorem dp_bits {K : PySem.W.Frag} {H : Hp} {n : Nat} {v : V} {s : Nat} (h : BitsV K n H v s) : Dp K H v (bitsD n s) := by
  obtain ⟨t, rfl, h⟩ := h
  rw [iv_ints] at h
  exact .tup h (dp_ints _)
theorem bits_lt : ∀ {n s t : Nat}, s < 2 ^ n → t < 2 ^ n → ((bitsS n s).map Int.ofNat < (bitsS n t).map Int.ofNat ↔ s < t)
  | 0, s, t, hs, ht => by
    have h1 : s = 0 := by simpa using hs
    have h2 : t = 0 := by simpa using ht
    subst h1 h2
    simp [bitsS]
  | n + 1, s, t, hs, ht => by
    obtain ⟨b, x, hx, rfl⟩ := top_split hs
    obtain ⟨c, y, hy, rfl⟩ := top_split ht
    have ih := bits_lt hx hy
    rw [bitsS_cons hx, bitsS_cons hy, List.map_cons, List.map_cons, List.cons_lt_cons_iff, ih]
    unfold topN
    cases b <;> cases c <;> simp <;> omega
theorem bits_le {n s t : Nat} (hs : s < 2 ^ n) (ht : t < 2 ^ n) (v u : V) : decide (s ≤ t) = PySem.W.dataLe false (fun (b : V × PyData) => b.2) (v, bitsD n s) (u, bitsD n t) := by
  rw [PySem.W.dataLe_eq]
  show _ = !PySem.W.dataLt (bitsD n t) (bitsD n s)
  unfold bitsD
  rw [PySem.W.dataLt_tuple]
  show _ = !PySem.W.rowLt _ _
  rw [PySem.W.dataLt_ints]
  have h := bits_lt ht hs
  by_cases z : s ≤ t
  · rw [decide_eq_true z, decide_eq_false (fun y => by have := h.mp y; omega)]
    rfl
  · rw [decide_eq_false z, decide_eq_true (h.mpr (by omega))]
    rfl
theorem bits_sorted {K : PySem.W.Frag} {H : Hp} {n : Nat} {cs : List (V × Nat)} (hv : ∀ c ∈ cs, BitsV K n H c.1 c.2) (hlt : ∀ c ∈ cs, c.2 < 2 ^ n) {T : List Nat} (hT : T.Pairwise (· < ·)) (p : (cs.map (·.2)).Perm T) :
    Paired (BitsV K n H) (((cs.map fun c => ((c.1, bitsD n c.2) : V × PyData)).mergeSort (PySem.W.dataLe false (·.2))).map (·.1)) T := by
  have key : ∀ a ∈ cs, ∀ b ∈ cs, decide (a.2 ≤ b.2) = PySem.W.dataLe false (fun (b : V × PyData) => b.2) (a.1, bitsD n a.2) (b.1, bitsD n b.2) := fun a ha b hb => bits_le (hlt a ha) (hlt b hb) _ _
  rw [← List.map_mergeSort (r := fun a b : V × Nat => decide (a.2 ≤ b.2)) (f := fun c : V × Nat => ((c.1, bitsD n c.2) : V × PyData)) key, List.map_map]
  have srt1 := List.pairwise_mergeSort (le := fun a b : V × Nat => decide (a.2 ≤ b.2)) (fun a b c h1 h2 => by simp only [decide_eq_true_eq] at *; omega) (fun a b => by simp only [Bool.or_eq_true, decide_eq_true_eq]; omega) cs
  have perm1 := List.mergeSort_perm cs (fun a b : V × Nat => decide (a.2 ≤ b.2))
  generalize cs.mergeSort (fun a b : V × Nat => decide (a.2 ≤ b.2)) = zs at srt1 perm1
  have hz : ∀ c ∈ zs, BitsV K n H c.1 c.2 := fun c hc => hv c (perm1.mem_iff.mp hc)
  have ez : zs.map (·.2) = T := by
    refine List.Perm.eq_of_pairwise (le := fun a b : Nat => a ≤ b) (fun a b _ _ h1 h2 => Nat.le_antisymm h1 h2) ?_ (hT.imp fun h => Nat.le_of_lt h) ((perm1.map (·.2)).trans p)
    rw [List.pairwise_map]
    exact srt1.imp fun h => by simpa using h
  rw [← ez]
  clear ez srt1 perm1
  induction zs with
  | nil => exact .nil
  | cons c zs ih => exact .cons (hz c List.mem_cons_self) (ih fun x hx => hz x (List.mem_cons_of_mem _ hx))
theorem bits_sort_facts {K : PySem.W.Frag} {H : Hp} {n : Nat} (n0 : 0 < n) {cs : List (V × Nat)} (hv : ∀ c ∈ cs, BitsV K n H c.1 c.2) :
    (∀ b ∈ cs.map (fun c => ((c.1, bitsD n c.2) : V × PyData)), Dp K H b.1 b.2) ∧ PySem.W.AllAlike ((cs.map (fun c => ((c.1, bitsD n c.2) : V × PyData))).map (·.2)) ∧ PySem.W.Sortable ((cs.map (fun c => ((c.1, bitsD n c.2) : V × PyData))).map (·.2)) ∧ (∀ b ∈ cs.map (fun c => ((c.1, bitsD n c.2) : V × PyData)), b.2.depth ≤ 40) := by
  have one : ∀ d ∈ (cs.map (fun c => ((c.1, bitsD n c.2) : V × PyData))).map (·.2), ∃ s, d = bitsD n s := fun d h => by
    obtain ⟨x, m, rfl⟩ := List.mem_map.mp h
    obtain ⟨c, _, rfl⟩ := List.mem_map.mp m
    exact ⟨c.2, rfl⟩
  refine ⟨fun b hb => ?_, fun d1 h1 d2 h2 => ?_, .inl fun d h => ?_, fun b hb => ?_⟩
  · obtain ⟨c, hc, rfl⟩ := List.mem_map.mp hb
    exact dp_bits (hv c hc)
  · obtain ⟨s, rfl⟩ := one d1 h1
    obtain ⟨t, rfl⟩ := one d2 h2
    exact PySem.W.alike_ints _ _
  · obtain ⟨s, rfl⟩ := one d h
    obtain ⟨k, rfl⟩ : ∃ k, n = k + 1 := ⟨n - 1, by omega⟩
    unfold bitsD bitsS
    rw [List.range_succ_eq_map, List.map_cons, List.map_cons, List.map_cons]
    exact ⟨_, _, rfl⟩
  · obtain ⟨s, q⟩ := one b.2 (List.mem_map.mpr ⟨b, hb, rfl⟩)
    rw [q]
    show PyData.depthAll _ + 1 ≤ 40
    rw [depth_ints]
    decide
def inF (n : Nat) (hs : List (Nat × Nat × Nat)) (s : Nat) : Bool := (canon hs).all fun l => holdsB l (fS n s)
def places (n : Nat) (hs : List (Nat × Nat × Nat)) : List Nat := (List.range (2 ^ n)).filter (inF n hs)
theorem places_perm {n : Nat} {hs : List (Nat × Nat × Nat)} (F : FlatOk hs) (hlt : ∀ e ∈ hs, e.2.1 < 2 ^ n) : (Ss n hs n).Perm (places n hs) := by
  refine (List.perm_ext_iff_of_nodup (Ss_nodup F hlt n (Nat.le_refl _)) (List.Pairwise.filter _ List.nodup_range)).mpr fun s => ?_
  rw [Ss_mem F hlt n (Nat.le_refl _), List.mem_filter, List.mem_range]
  unfold inF
  rw [all_canon F]
  exact ⟨fun h => ⟨h.1, fun e he => h.2 e he (by omega)⟩, fun h => ⟨h.1, fun e he _ => h.2 e he⟩⟩
theorem places_len {n : Nat} {hs : List (Nat × Nat × Nat)} (F : FlatOk hs) (hlt : ∀ e ∈ hs, e.2.1 < 2 ^ n) : (places n hs).length * 2 ^ hs.length = 2 ^ n := by
  rw [← (places_perm F hlt).length_eq, ← hcnt_all F hlt]
  exact Ss_len hs n
theorem places_lt (n : Nat) (hs : List (Nat × Nat × Nat)) : (places n hs).Pairwise (· < ·) := List.Pairwise.filter _ List.pairwise_lt_range
def cntB (N x : Nat) : Nat := ((List.range N).filter fun s => x.testBit s).length
theorem cnt_zero (N : Nat) : cntB N 0 = 0 := by
  unfold cntB
  rw [List.filter_eq_nil_iff.mpr fun s _ => by rw [Nat.zero_testBit]; exact Bool.false_ne_true]
  rfl
theorem cnt_more {N x : Nat} (h : x < 2 ^ N) (d : Nat) : cntB (N + d) x = cntB N x := by
  induction d with
  | zero => rfl
  | succ d ih =>
    unfold cntB at ih ⊢
    rw [← Nat.add_assoc, List.range_succ, List.filter_append, List.length_append, ih]
    have : x.testBit (N + d) = false := Nat.testBit_lt_two_pow (Nat.lt_of_lt_of_le h (Nat.pow_le_pow_right (by decide) (by omega)))
    rw [List.filter_cons_of_neg (by rw [this]; exact Bool.false_ne_true)]
    rfl
def tbl16 : List Nat := [0, 1, 1, 2, 1, 2, 2, 3, 1, 2, 2, 3, 2, 3, 3, 4]
theorem tbl_is : ∀ r, r < 16 → tbl16[r]? = some (cntB 4 r) := by decide +kernel
theorem cnt_step (N x : Nat) : cntB (4 + N) x = cntB 4 (x % 16) + cntB N (x / 16) := by
  unfold cntB
  rw [List.range_add, List.filter_append, List.length_append, List.filter_map, List.length_map]
  congr 1
  · congr 1
    refine List.filter_congr fun s hs => ?_
    have hs := List.mem_range.mp hs
    rw [show (16 : Nat) = 2 ^ 4 from rfl, Nat.testBit_mod_two_pow, decide_eq_true hs, Bool.true_and]
  · congr 1
    refine List.filter_congr fun s _ => ?_
    show x.testBit (4 + s) = _
    rw [show (16 : Nat) = 2 ^ 4 from rfl, Nat.testBit_div_two_pow, Nat.add_comm]
theorem bits_cnt {N x : Nat} {p : Nat → Bool} (h : BitsOf N x p) : cntB N x = ((List.range N).filter p).length := by
  unfold cntB
  congr 1
  exact List.filter_congr fun s hs => h.2 s (List.mem_range.mp hs)
def sp_bit_ahead (K : PySem.W.Frag) : Sp := fun vs H Q _ => ∃ (v : V) (b : Addr) (p : Nat × Nat) (u n s : Nat), vs = [v, .ref b] ∧ LineV K H v p ∧ low p.1 = some u ∧ p.1 < 2 ^ n ∧ p.2 < 2 ∧ n ≤ 62 ∧ s < 2 ^ (n - 1 - u) ∧ SqT K H b (iv (bitsS (n - 1 - u) s)) ∧
  ∀ H', Same H H' → Q (.int ((if aheadB n p u s = true then 1 else 0 : Nat) : Int)) H'
def sp_bits_in (K : PySem.W.Frag) : Sp := fun vs H Q _ => ∃ (n : Nat) (v : V) (hs : List (Nat × Nat × Nat)), vs = [.int (n : Int), v] ∧ FlatV K H v hs ∧ FlatOk hs ∧ (∀ e ∈ hs, e.2.1 < 2 ^ n) ∧ n ≤ 7 ∧
  ∀ H' a us, Same H H' → H a = none → H' a = some (.lst us) → Paired (BitsV K n H') us (places n hs) → Q (.ref a) H'
def sp_law_count (K : PySem.W.Frag) : Sp := fun vs H Q _ => ∃ (x N : Nat), vs = [.int (x : Int)] ∧ x < 2 ^ N ∧ N ≤ 128 ∧ ∀ H', Same H H' → Q (.int (cntB N x : Nat)) H'
end Es
set_option Elab.async false
set_option linter.all false
set_option maxRecDepth 100000
set_option maxHeartbeats 4000000
namespace Es
open PySem PySem.Spec PyProof.Rows L2
section
variable {P : Program} {w : World} {A : Around} {E : Value → Shared → Prop} {s : Shared}
theorem sort_few {a : Addr} {vs : List Value} {n : Nat} {Pf : PySem.Fin → Shared → Prop} (ho : s.heap.get? a = some (seqObj "list" vs.toArray n)) (few : vs.length ≤ 1) (h : Pf (.done (.ret .none)) { s with heap := sortedHeap s.heap a vs vs.toArray }) :
    wpAny (model P w) A (Builtin.«list.sort» ⟨[.ref a], []⟩) Pf E s := by
  refine SK.plain_sort (r := fun _ => 0) ho (by omega) (fun two => absurd two (by omega)) fun ps out h1 h2 _ => ?_
  have same : out = vs.toArray := by
    match vs, few with
    | [], _ =>
      have : ps = [] := List.perm_nil.mp h2
      rw [this] at h1
      exact Array.toList_inj.mp h1
    | [x], _ =>
      have : ps = [(x, x)] := List.perm_singleton.mp h2
      rw [this] at h1
      exact Array.toList_inj.mp h1
  rw [same]
  exact h
theorem sorted_few {l : Addr} {vs : List Value} {Q : Value → Shared → Prop} (hl : s.heap.IsList l vs.toArray) (few : vs.length ≤ 1) (hQ : Q (.ref (s.heap.objs.size + 1)) { s with heap := sortedAll s.heap vs vs.toArray }) :
    wpAny (model P w) A (call (.builtin "sorted") [.ref l]) Q E s := by
  have line : vs.length < sizeLine := by rw [sizeLine_eq]; omega
  refine Calls.call_function_entry kind_sorted plain_sorted entry_sorted (args_sorted1 _) ?_
  unfold Builtin.«sorted»
  refine wpAny_bind (m := checkCount "sorted" 1 1 _) (wpAny_pure ?_)
  refine wpAny_bind (collect_list hl ?_ (by rw [sizeLine_eq]; omega))
  refine wpAny_bind (wpAny_newList ?_ (by rw [sizeLine_eq]; omega))
  have size1 : ((s.heap.push (seqObj "list" #[] 0)).update s.heap.objs.size (Obj.mapSeq (· ++ vs.toArray))).objs.size = s.heap.objs.size + 1 := by
    rw [Heap.size_update, size_push']
  have at1 : (((s.heap.push (seqObj "list" #[] 0)).update s.heap.objs.size (Obj.mapSeq (· ++ vs.toArray))).push (seqObj "list" vs.toArray 0)).get? (s.heap.objs.size + 1) = some (seqObj "list" vs.toArray 0) := by
    rw [← size1]
    exact Heap.get?_push_size _ rfl
  show wpAny _ _ _ _ _ { s with heap := ((s.heap.push (seqObj "list" #[] 0)).update s.heap.objs.size (Obj.mapSeq (· ++ vs.toArray))).push (seqObj "list" vs.toArray 0) }
  rw [size1]
  refine wpAny_bind (wpAny_holding (wpAny_call_entry slot_list_sort ⟨_, at1, rfl⟩ entry_list_sort (sort_few at1 few ⟨_, rfl, ?_⟩) (args_list_sort _)))
  exact wpAny_pure ⟨_, rfl, hQ⟩
end
def rSortedBoth (K : PySem.W.Frag) : List V → Hp → VK → Prop := fun xs H Q => rSortedData K xs H Q ∨ ∃ (a : Addr) (x : V), xs = [.ref a] ∧ SqL K H a [x] ∧ ∀ p, H p = none → Q (.ref p) (upd H p (.lst [x]))
theorem cr_sortedBoth {X : Cx} (hu : X.A.units + 64 < cLine) : CallR X (.builtin "sorted") (rSortedBoth X.K) := by
  intro pins s σ H xs us Q I r h
  rcases h with h | ⟨a, x, rfl, hs, q⟩
  · exact cr_sortedData hu pins s σ H xs us Q I r h
  · rw [Vals.ref1 r]
    obtain ⟨its, rv, pl, hz⟩ := I.list hs
    have one : its.length = 1 := rv.length.symm
    refine sorted_few pl.isList (by omega) ?_
    obtain ⟨c, hc⟩ := sortedAll_at s.heap its its.toArray
    exact ⟨.ref (s.heap.objs.size + 1), upd H (s.heap.objs.size + 1) (.lst [x]), I.laid (t' := s.toks) (fun _ _ => sortedAll_old) (Nat.le_succ _) ⟨hz, its, c, rv, hc⟩, rfl, q _ (I.hok.fresh (Nat.le_succ _))⟩
end Es
set_option Elab.async false
set_option linter.all false
set_option maxRecDepth 100000
set_option maxHeartbeats 4000000
namespace Es
open PySem PySem.Spec PyProof.Rows L2
theorem for_sq {K : PySem.W.Frag} {a : Addr} {j : Nat} {xs : List V} {g : TG} {tb : TS} {D : Ends} {σ : L2.St} {B H : Hp} (hj : σ[j]? = some (some (.ref a))) (hS : Sq K B a xs) (s0 : Same B H) (Pv : Nat → L2.St → Hp → Prop) (h0 : Pv 0 σ H) (hl : ∀ i σ H', Pv i σ H' → Same B H')
    (hs : ∀ i x σ H, xs[i]? = some x → Pv i σ H → g x σ H fun σ2 H2 => tb { D with nx := Pv (i + 1), ct := Pv (i + 1), bk := D.nx } σ2 H2) (hd : ∀ σ H, Pv xs.length σ H → D.nx σ H) :
    tFor (iOr (iList K (tVar j)) (iTup K (tVar j))) g tb D σ H := by
  rcases hS with hS | hS
  · exact .inl ⟨_, hj, a, rfl, ⟨xs, s0.seq hS⟩, for_list (K := K) (a := a) (xs := xs) Pv h0 (fun i σ H' _ p => (hl i σ H' p).seq hS) hs hd⟩
  · exact .inr ⟨_, hj, a, rfl, ⟨xs, sqT_same s0 hS⟩, for_tup (K := K) (a := a) (xs := xs) Pv h0 (fun i σ H' _ p => sqT_same (hl i σ H' p) hS) hs hd⟩
def sp_flat_ofS (K : PySem.W.Frag) : Sp := fun vs H Q _ => ∃ (a : Addr) (us : List V) (ls : List (Nat × Nat)), vs = [.ref a] ∧ Sq K H a us ∧ Paired (LineV K H) us ls ∧ (∀ l ∈ ls, l.1 < 2 ^ 63 ∧ l.2 < 2) ∧ ∀ H' v, Same H H' → OptFlat K H' v (lflat ls) → Q v H'
theorem flatS_mono {K : PySem.W.Frag} {vs : List V} {H : Hp} {Q : VK} {E : XK} (h : sp_flat_of K vs H Q E) : sp_flat_ofS K vs H Q E := by
  obtain ⟨a, us, ls, e, hS, r⟩ := h
  exact ⟨a, us, ls, e, .inl hS, r⟩
def sp_law_inS (K : PySem.W.Frag) : Sp := fun vs H Q _ => ∃ (v : V) (t : Addr) (us : List V) (n : Nat) (ls : List (Nat × Nat)), vs = [v, .ref t] ∧ RoomV K H v n ∧ n ≤ 7 ∧ Sq K H t us ∧ Paired (LineV K H) us ls ∧ (∀ l ∈ ls, l.1 < 2 ^ n ∧ l.2 < 2) ∧
  ∀ x, BitsOf (2 ^ n) x (fun s => ls.all fun l => holdsB l (fS n s)) → Q (.int (x : Int)) H
theorem inS_mono {K : PySem.W.Frag} {vs : List V} {H : Hp} {Q : VK} {E : XK} (h : sp_law_in K vs H Q E) : sp_law_inS K vs H Q E := by
  obtain ⟨v, t, us, n, ls, e, h1, h2, h3, r⟩ := h
  exact ⟨v, t, us, n, ls, e, h1, h2, .inr h3, r⟩
theorem callee_mono {P : Program} {w : World} {K : PySem.W.Frag} {mg : Str → Option Value} {base : Heap} {k : Nat} {x : Str} {ps : List Str} {sp sp' : Sp} (m : ∀ {vs H Q E}, sp vs H Q E → sp' vs H Q E) (c : CalleeOf P w K mg base k x ps sp') : CalleeOf P w K mg base k x ps sp := by
  obtain ⟨f, fd, F, r⟩ := c
  exact ⟨f, fd, ⟨fun h => F.lenG (m h), fun a b c d e h => F.runG a b c d e (m h)⟩, r⟩
def sp_law_drawn_lines (K : PySem.W.Frag) : Sp := fun vs H Q _ => ∃ (b c : Addr) (n : Nat), vs = [.ref b, .int (n : Int)] ∧ BagAt K H b c ∧ n ≤ 7 ∧
  ∀ H' a us ls, But b H H' → BagAt K H' b c → H a = none → a ≠ b → H' a = some (.lst us) → Paired (LineV K H') us ls → (∀ l ∈ ls, l.1 < 2 ^ n ∧ l.2 < 2) → us.length ≤ 20 → Q (.ref a) H'
def sp_law_is_flat_right (K : PySem.W.Frag) : Sp := fun vs H Q _ => ∃ (b c a : Addr) (v : V) (n : Nat) (us : List V) (ls : List (Nat × Nat)), vs = [.ref b, v, .ref a] ∧ BagAt K H b c ∧ RoomV K H v n ∧ n ≤ 7 ∧ a ≠ b ∧ H a = some (.lst us) ∧ Paired (LineV K H) us ls ∧ (∀ l ∈ ls, l.1 < 2 ^ n ∧ l.2 < 2) ∧ us.length ≤ 20 ∧
  ∀ H', But b H H' → BagAt K H' b c → Q (.bl true) H'
def sp_law_are_wide_right (K : PySem.W.Frag) : Sp := fun vs H Q _ => ∃ (b c : Addr), vs = [.ref b] ∧ BagAt K H b c ∧ ∀ H', Q (.bl true) H'
theorem bts_low {m u : Nat} (hm : m < 2 ^ 63) (hl : low m = some u) : bts m = u :: (bts (m >>> (u + 1))).map fun i => u + 1 + i := by
  obtain ⟨u63, bu, below⟩ := low_iff.mp hl
  refine (bts_of ?_ fun v => ?_).symm
  · refine List.pairwise_cons.mpr ⟨fun v hv => ?_, ?_⟩
    · obtain ⟨i, _, rfl⟩ := List.mem_map.mp hv
      show u < u + 1 + i
      omega
    · exact List.pairwise_map.mpr ((bts_lt _).imp fun {a b} h => by omega)
  · rw [List.mem_cons, List.mem_map]
    constructor
    · rintro (rfl | ⟨i, hi, rfl⟩)
      · exact ⟨u63, bu⟩
      · have := (mem_bts.mp hi).2
        rw [Nat.testBit_shiftRight] at this
        refine ⟨?_, this⟩
        refine Nat.lt_of_not_le fun z => ?_
        rw [bit_ge hm z] at this
        cases this
    · rintro ⟨v63, bv⟩
      by_cases z : v = u
      · exact .inl z
      · have h2 : ¬ v < u := fun y => by
          rw [below v y] at bv
          cases bv
        refine .inr ⟨v - (u + 1), mem_bts.mpr ⟨by omega, ?_⟩, by omega⟩
        rw [Nat.testBit_shiftRight, show u + 1 + (v - (u + 1)) = v by omega]
        exact bv
theorem bitsS_getD (m s i : Nat) : decide ((bitsS m s).getD i 0 = 1) = G8 m s i := by
  unfold G8 bitsS
  rw [List.getD_eq_getElem?_getD, List.getElem?_map]
  by_cases h : i < m
  · rw [List.getElem?_range h, decide_eq_true h, Bool.true_and, Bool.eq_iff_iff, decide_eq_true_eq]
    show (if s.testBit (m - 1 - i) = true then 1 else 0) = 1 ↔ _
    split <;> simp_all
  · rw [List.getElem?_eq_none (by rw [List.length_range]; omega), decide_eq_false h]
    rfl
theorem bitsS_lt (m s : Nat) : ∀ b ∈ bitsS m s, b < 2 := fun b hb => by
  unfold bitsS at hb
  obtain ⟨u, _, rfl⟩ := List.mem_map.mp hb
  split <;> decide
theorem ahead_val {n u s : Nat} {p : Nat × Nat} (p2 : p.2 < 2) : p.2 ^^^ (wsum (p.1 >>> (u + 1)) (bitsS (n - 1 - u) s) % 2) = if aheadB n p u s = true then 1 else 0 := by
  have h := wsum_par (p.1 >>> (u + 1)) (bitsS (n - 1 - u) s) (bitsS_lt _ _)
  unfold holdsL at h
  have e : (fun i => decide ((bitsS (n - 1 - u) s).getD i 0 = 1)) = G8 (n - 1 - u) s := funext (bitsS_getD _ _)
  rw [e] at h
  unfold aheadB
  rw [h]
  have w2 : wsum (p.1 >>> (u + 1)) (bitsS (n - 1 - u) s) % 2 < 2 := Nat.mod_lt _ (by decide)
  show _ = if (decide (p.2 = 1) ^^ decide (wsum (p.1 >>> (u + 1)) (bitsS (n - 1 - u) s) % 2 = 1)) = true then 1 else 0
  generalize wsum (p.1 >>> (u + 1)) (bitsS (n - 1 - u) s) % 2 = w at w2
  have a : p.2 = 0 ∨ p.2 = 1 := by omega
  have b : w = 0 ∨ w = 1 := by omega
  rcases a with a | a <;> rcases b with b | b <;> rw [a, b] <;> rfl
theorem cut_tail (x : Nat) (ms : List Nat) : cutV (iv (x :: ms)) (some 1) none = iv ms ∧ HT.sIx (iv (x :: ms)).length 0 (some 1) = 1 := by
  have e0 : iv (x :: ms) = V.int (x : Int) :: iv ms := rfl
  have h1 : HT.sIx (iv (x :: ms)).length 0 (some 1) = 1 := by
    rw [e0, List.length_cons]
    unfold HT.sIx
    simp
  refine ⟨?_, h1⟩
  unfold cutV
  have h2 : HT.sIx (iv (x :: ms)).length (iv (x :: ms)).length none = (iv (x :: ms)).length := rfl
  rw [h1, h2, e0, List.drop_succ_cons, List.drop_zero, List.take_of_length_le (by simp)]
end Es
set_option Elab.async false
set_option linter.all false
set_option maxRecDepth 100000
set_option maxHeartbeats 4000000
namespace Es
open PySem PySem.Spec PyProof.Rows L2
theorem lookB_look {hs : List (Nat × Nat × Nat)} (R : RedOk hs) (u : Nat) : lookB (byHead hs) u = look hs u := by
  have pm := byHead_perm R
  cases q : lookB (byHead hs) u with
  | none =>
    rw [lookB_none] at q
    refine (look_none.mpr fun h => q ?_).symm
    obtain ⟨e, he, rfl⟩ := List.mem_map.mp h
    exact List.mem_map.mpr ⟨e, pm.mem_iff.mpr he, rfl⟩
  | some b => exact (look_of R.nd (e := (u, b)) (pm.mem_iff.mp (lookB_mem q))).symm
theorem Ss_len_le (n : Nat) (hs : List (Nat × Nat × Nat)) (m : Nat) : (Ss n hs m).length ≤ 2 ^ m := by
  have h := Ss_len (n := n) hs m
  have p := Nat.two_pow_pos (hcnt n hs m)
  calc (Ss n hs m).length = (Ss n hs m).length * 1 := (Nat.mul_one _).symm
    _ ≤ (Ss n hs m).length * 2 ^ hcnt n hs m := Nat.mul_le_mul_left _ p
    _ = 2 ^ m := h
theorem cat_bits {K : PySem.W.Frag} {H : Hp} {i s : Nat} {b : Bool} {q a : Addr} {Q : VK} (hq : SqT K H q [.int ((if b = true then 1 else 0 : Nat) : Int)]) (ha : SqT K H a (iv (bitsS i s))) (hs : s < 2 ^ i) (i7 : i ≤ 62)
    (k : ∀ H' v, Same H H' → BitsV K (i + 1) H' v (topN i b + s) → Q v H') : rCatA K (.ref q) (.ref a) H Q := by
  have e : iv (bitsS (i + 1) (topN i b + s)) = [V.int ((if b = true then 1 else 0 : Nat) : Int)] ++ iv (bitsS i s) := by
    rw [bitsS_cons hs]
    rfl
  refine ⟨q, a, _, _, rfl, rfl, hq, ha, ?_, fun z => (by cases z), fun _ z => ?_, fun _ _ p hp => ?_⟩
  · rw [iv_len, bitsS_len]
    have : [V.int ((if b = true then 1 else 0 : Nat) : Int)].length = 1 := rfl
    rw [this]
    exact Nat.le_of_lt (small1000 (by omega))
  · refine k H _ (Same.refl _) ⟨q, rfl, ?_⟩
    rw [e, z, List.append_nil]
    exact hq
  · refine k _ _ (same_new hp) ⟨p, rfl, ?_⟩
    rw [e]
    exact .inl (.inl upd_same)
theorem two_len {α β : Type} (f g : α → β) : ∀ l : List α, (l.flatMap fun s => [f s, g s]).length = 2 * l.length
  | [] => rfl
  | a :: l => by
    rw [List.flatMap_cons, List.length_append, two_len f g l]
    show 2 + 2 * l.length = 2 * (l.length + 1)
    omega
theorem lc2_list {K : PySem.W.Frag} {a : Addr} {xs : List V} {g : TG} {tt : TT} {wi1 : TI} {g1 : TG} {tt1 : TT} {te : TE} {vs vs1 : List Nat} {σ : L2.St} {H1 : Hp} {D : Addr} {Qd : Hp → Prop} (Pv : Nat → Hp → Prop) (h0 : Pv 0 (upd H1 D (.lst []))) (hl : ∀ i H, i ≤ xs.length → Pv i H → SqL K H a xs)
    (hs : ∀ i x H, xs[i]? = some x → Pv i H → g x (wipe σ vs) H fun σ2 H2 => wipe σ2 vs = wipe σ vs ∧ tt σ2 H2 fun b H3 =>
      if b = true then wi1 σ2 H3 fun J1 H4 => ∃ W1 : Nat → Nat → Hp → Prop, (∃ m, W1 0 m H4) ∧ ∀ j k H, W1 j k H →
        (J1.stop j H ∧ Pv (i + 1) H) ∨ (J1.go j H ∧ ∃ Nx1 : Hp → Prop, (∀ H', Nx1 H' → ∃ k', k' < k ∧ W1 (j + 1) k' H') ∧ ∀ x H', J1.yld j H x H' → g1 x (wipe σ2 vs1) H' fun σ3 H5 => wipe σ3 vs1 = wipe σ2 vs1 ∧ tt1 σ3 H5 fun b H6 =>
          if b = true then te σ3 H6 fun y H7 => ∃ acc, H7 D = some (.lst acc) ∧ acc.length < sizeLine ∧ Nx1 (upd H7 D (.lst (acc ++ [y]))) else Nx1 H6)
      else Pv (i + 1) H3) (hd : ∀ H, Pv xs.length H → Qd H) :
    ∃ W : Nat → Nat → Hp → Prop, (∃ m, W 0 m (upd H1 D (.lst []))) ∧ ∀ i m H, W i m H →
      ((Itl K a).stop i H ∧ Qd H) ∨ ((Itl K a).go i H ∧ ∃ Nx : Hp → Prop, (∀ H', Nx H' → ∃ m', m' < m ∧ W (i + 1) m' H') ∧ ∀ x H', (Itl K a).yld i H x H' → g x (wipe σ vs) H' fun σ2 H2 => wipe σ2 vs = wipe σ vs ∧ tt σ2 H2 fun b H3 =>
        if b = true then wi1 σ2 H3 fun J1 H4 => ∃ W1 : Nat → Nat → Hp → Prop, (∃ m, W1 0 m H4) ∧ ∀ j k H, W1 j k H →
          (J1.stop j H ∧ Nx H) ∨ (J1.go j H ∧ ∃ Nx1 : Hp → Prop, (∀ H', Nx1 H' → ∃ k', k' < k ∧ W1 (j + 1) k' H') ∧ ∀ x H', J1.yld j H x H' → g1 x (wipe σ2 vs1) H' fun σ3 H5 => wipe σ3 vs1 = wipe σ2 vs1 ∧ tt1 σ3 H5 fun b H6 =>
            if b = true then te σ3 H6 fun y H7 => ∃ acc, H7 D = some (.lst acc) ∧ acc.length < sizeLine ∧ Nx1 (upd H7 D (.lst (acc ++ [y]))) else Nx1 H6)
        else Nx H3) := by
  refine ⟨fun i m H => m = xs.length - i ∧ i ≤ xs.length ∧ Pv i H, ⟨xs.length, by simp, Nat.zero_le _, h0⟩, ?_⟩
  rintro i m H ⟨rfl, hi, p⟩
  have q := hl i H hi p
  by_cases hlt : i < xs.length
  · refine .inr ⟨⟨xs, xs[i], q, by simp [hlt]⟩, Pv (i + 1), fun H' p' => ⟨xs.length - (i + 1), by omega, rfl, hlt, p'⟩, fun x H' y => ?_⟩
    obtain ⟨e, y⟩ := y
    subst e
    exact hs i x _ (y xs q) p
  · have e : i = xs.length := by omega
    subst e
    exact .inl ⟨⟨xs, q, Nat.le_refl _⟩, hd H p⟩
theorem lc2_tup {K : PySem.W.Frag} {a : Addr} {xs : List V} {g1 : TG} {tt1 : TT} {te : TE} {vs1 : List Nat} {σ2 : L2.St} {H4 : Hp} {D : Addr} {Nx : Hp → Prop} (Pv : Nat → Hp → Prop) (h0 : Pv 0 H4) (hl : ∀ i H, i ≤ xs.length → Pv i H → SqT K H a xs)
    (hs : ∀ i x H, xs[i]? = some x → Pv i H → g1 x (wipe σ2 vs1) H fun σ3 H5 => wipe σ3 vs1 = wipe σ2 vs1 ∧ tt1 σ3 H5 fun b H6 =>
      if b = true then te σ3 H6 fun y H7 => ∃ acc, H7 D = some (.lst acc) ∧ acc.length < sizeLine ∧ Pv (i + 1) (upd H7 D (.lst (acc ++ [y]))) else Pv (i + 1) H6) (hd : ∀ H, Pv xs.length H → Nx H) :
    ∃ W1 : Nat → Nat → Hp → Prop, (∃ m, W1 0 m H4) ∧ ∀ j k H, W1 j k H →
      ((Itt K a).stop j H ∧ Nx H) ∨ ((Itt K a).go j H ∧ ∃ Nx1 : Hp → Prop, (∀ H', Nx1 H' → ∃ k', k' < k ∧ W1 (j + 1) k' H') ∧ ∀ x H', (Itt K a).yld j H x H' → g1 x (wipe σ2 vs1) H' fun σ3 H5 => wipe σ3 vs1 = wipe σ2 vs1 ∧ tt1 σ3 H5 fun b H6 =>
        if b = true then te σ3 H6 fun y H7 => ∃ acc, H7 D = some (.lst acc) ∧ acc.length < sizeLine ∧ Nx1 (upd H7 D (.lst (acc ++ [y]))) else Nx1 H6) := by
  refine ⟨fun i m H => m = xs.length - i ∧ i ≤ xs.length ∧ Pv i H, ⟨xs.length, by simp, Nat.zero_le _, h0⟩, ?_⟩
  rintro i m H ⟨rfl, hi, p⟩
  have q := hl i H hi p
  by_cases hlt : i < xs.length
  · refine .inr ⟨⟨xs, xs[i], q, by simp [hlt]⟩, Pv (i + 1), fun H' p' => ⟨xs.length - (i + 1), by omega, rfl, hlt, p'⟩, fun x H' y => ?_⟩
    obtain ⟨e, y⟩ := y
    subst e
    exact hs i x _ (y xs q) p
  · have e : i = xs.length := by omega
    subst e
    exact .inl ⟨⟨xs, q, Nat.le_refl _⟩, hd H p⟩
theorem cat_seq {K : PySem.W.Frag} {H : Hp} {a b : Addr} {xs ys : List V} {Q : VK} (ha : SqT K H a xs) (hb : SqT K H b ys) (hz : xs.length + ys.length ≤ sizeLine) (k : ∀ H' p, Same H H' → SqT K H' p (xs ++ ys) → Q (.ref p) H') : rCatA K (.ref a) (.ref b) H Q := by
  refine ⟨a, b, xs, ys, rfl, rfl, ha, hb, hz, fun z => ?_, fun _ z => ?_, fun _ _ p hp => ?_⟩
  · refine k H b (Same.refl _) ?_
    rw [z]
    exact hb
  · refine k H a (Same.refl _) ?_
    rw [z, List.append_nil]
    exact ha
  · exact k _ p (same_new hp) (.inl (.inl upd_same))
theorem heads_le {n : Nat} {hs : List (Nat × Nat × Nat)} (F : FlatOk hs) (hlt : ∀ e ∈ hs, e.2.1 < 2 ^ n) : hs.length ≤ n := by
  rw [← hcnt_all F hlt]
  unfold hcnt
  have := List.length_filter_le (fun j => (look hs (n - 1 - j)).isSome) (List.range n)
  rwa [List.length_range] at this
theorem cntD_facts {x : Nat} {D : PyData} (hx : x < 2 ^ 13) (h1 : nice D = true) (h2 : D.depth ≤ 3) (h3 : D.weight ≤ 30000) :
    nice (.list [.int (x : Int), D]) = true ∧ (PyData.list [.int (x : Int), D]).depth ≤ 40 ∧ (PyData.list [.int (x : Int), D]).weight ≤ 2 ^ 20 := by
  refine ⟨?_, ?_, ?_⟩
  · refine niceAll_iff.mpr fun y hy => ?_
    rcases List.mem_cons.mp hy with rfl | hy
    · exact decide_eq_true (by show (x : Int).natAbs < 10 ^ 12; omega)
    · rcases List.mem_cons.mp hy with rfl | hy
      · exact h1
      · cases hy
  · show max 0 (max _ 0) + 1 ≤ 40
    omega
  · have w : PyData.weight (.int (x : Int)) ≤ 13 := weight_int hx
    show PyData.weight (.int (x : Int)) + 1 + (D.weight + 1 + 0) ≤ 2 ^ 20
    omega
end Es
set_option Elab.async false
set_option linter.all false
set_option maxRecDepth 100000
set_option maxHeartbeats 4000000
namespace Es
open PySem PySem.Spec PyProof.Rows L2
theorem wh_out {m : Nat} : ∀ {L : List (Nat × Nat × Nat)} (z : Nat × Nat), (∀ e ∈ L, m.testBit e.1 = false) → L.foldl (wh1 m) z = z
  | [], _, _ => rfl
  | e :: L, z, h => by
    rw [List.foldl_cons]
    have : wh1 m z e = z := by
      unfold wh1
      rw [h e List.mem_cons_self]
      rfl
    rw [this]
    exact wh_out z fun x hx => h x (List.mem_cons_of_mem _ hx)
theorem wh_keeps {m h : Nat} (below : ∀ u, u < h → m.testBit u = false) : ∀ {L : List (Nat × Nat × Nat)} (z : Nat × Nat), (∀ e ∈ L, e.1 ≠ h ∧ ∀ u, u < e.1 → e.2.1.testBit u = false) → z.1.testBit h = true → (L.foldl (wh1 m) z).1.testBit h = true
  | [], _, _, hz => hz
  | e :: L, z, hL, hz => by
    rw [List.foldl_cons]
    refine wh_keeps below _ (fun x hx => hL x (List.mem_cons_of_mem _ hx)) ?_
    obtain ⟨n1, n2⟩ := hL e List.mem_cons_self
    unfold wh1
    cases q : m.testBit e.1 with
    | false => exact hz
    | true =>
      have ge : ¬ e.1 < h := fun y => by
        rw [below e.1 y] at q
        cases q
      show (z.1 ^^^ e.2.1).testBit h = true
      rw [Nat.testBit_xor, hz, n2 h (by omega)]
      rfl
theorem told_zero {hs gs : List (Nat × Nat × Nat)} (F : FlatOk hs) (FG : FlatOk gs) (im : ∀ f, sol gs f → sol hs f) {e : Nat × Nat × Nat} (he : e ∈ hs) : (wh gs e.2).1 = 0 ∧ (wh gs e.2).2 = 0 := by
  have e63 := (F.red.own e he).2.1
  have b2 := F.bit e he
  have on : ∀ f, sol gs f → holdsL e.2 f := fun f s => im f s e he
  have z : (wh gs e.2).1 = 0 := by
    refine Classical.byContradiction fun nz => ?_
    obtain ⟨f, s1, s2⟩ := flat_free FG (l := (e.2.1, 1 - e.2.2)) e63 (by show 1 - e.2.2 < 2; omega) (by rw [← (wh_row gs e.2.1 e.2.2 (1 - e.2.2)).1]; exact nz)
    exact (holds_flip b2).mp s2 (on f s1)
  obtain ⟨f, s⟩ := flat_has FG
  exact ⟨z, (flat_told FG b2 z s).mp (on f s)⟩
theorem head_in {hs gs : List (Nat × Nat × Nat)} (F : FlatOk hs) (FG : FlatOk gs) (im : ∀ f, sol gs f → sol hs f) {e : Nat × Nat × Nat} (he : e ∈ hs) : e.1 ∈ gs.map (·.1) := by
  refine Classical.byContradiction fun no => ?_
  obtain ⟨z, _⟩ := told_zero F FG im he
  obtain ⟨_, hb, below⟩ := low_iff.mp (F.least e he)
  have k := wh_keeps (m := e.2.1) (h := e.1) below (L := gs) e.2 (fun x hx => ⟨fun y => no (List.mem_map.mpr ⟨x, hx, y⟩), (low_iff.mp (FG.least x hx)).2.2⟩) hb
  have k : (wh gs e.2).1.testBit e.1 = true := k
  rw [z, Nat.zero_testBit] at k
  cases k
theorem xor_zero_eq {a b : Nat} (h : a ^^^ b = 0) : a = b := by
  have := congrArg (· ^^^ b) h
  simpa [Nat.xor_assoc] using this
theorem line_in {hs gs : List (Nat × Nat × Nat)} (F : FlatOk hs) (FG : FlatOk gs) (same : ∀ f, sol hs f ↔ sol gs f) {e : Nat × Nat × Nat} (he : e ∈ hs) : e ∈ gs := by
  obtain ⟨g, hg, hgh⟩ := List.mem_map.mp (head_in F FG (fun f => (same f).mpr) he)
  obtain ⟨z1, z2⟩ := told_zero F FG (fun f => (same f).mpr) he
  have others : ∀ x ∈ gs, x.1 ≠ e.1 → e.2.1.testBit x.1 = false := fun x hx ne => by
    obtain ⟨y, hy, hyh⟩ := List.mem_map.mp (head_in FG F (fun f => (same f).mp) hx)
    exact F.red.oth e he x.1 (List.mem_map.mpr ⟨y, hy, hyh⟩) ne
  obtain ⟨l1, l2, eq⟩ := List.append_of_mem hg
  have nd := FG.red.nd
  have ow := (F.red.own e he).2.2
  have out : ∀ x ∈ l1 ++ l2, e.2.1.testBit x.1 = false := fun x hx => by
    refine others x ?_ fun q => ?_
    · rw [eq]
      rcases List.mem_append.mp hx with hx | hx
      · exact List.mem_append_left _ hx
      · exact List.mem_append_right _ (List.mem_cons_of_mem _ hx)
    · rw [eq, List.map_append, List.map_cons] at nd
      have nd2 := List.perm_middle.nodup_iff.mp nd
      refine (List.nodup_cons.mp nd2).1 ?_
      rw [← List.map_append]
      exact List.mem_map.mpr ⟨x, hx, q.trans hgh.symm⟩
  have w : wh gs e.2 = (e.2.1 ^^^ g.2.1, e.2.2 ^^^ g.2.2) := by
    unfold wh
    rw [eq, List.foldl_append, List.foldl_cons, wh_out e.2 fun x hx => out x (List.mem_append_left _ hx), wh_out _ fun x hx => out x (List.mem_append_right _ hx)]
    unfold wh1
    rw [hgh, ow]
    rfl
  rw [w] at z1 z2
  have e1 : e.2.1 = g.2.1 := xor_zero_eq z1
  have e2 : e.2.2 = g.2.2 := xor_zero_eq z2
  have : e = g := Prod.ext hgh.symm (Prod.ext e1 e2)
  rw [this]
  exact hg
theorem canon_uniq {hs gs : List (Nat × Nat × Nat)} (F : FlatOk hs) (FG : FlatOk gs) (same : ∀ f, sol hs f ↔ sol gs f) : canon hs = canon gs := by
  have mem : ∀ e, e ∈ hs ↔ e ∈ gs := fun e => ⟨line_in F FG same, line_in FG F fun f => (same f).symm⟩
  have es : srt (hs.map (·.1)) = srt (gs.map (·.1)) := by
    unfold srt
    refine List.filter_congr fun u _ => ?_
    refine decide_eq_decide.mpr ?_
    constructor
    · intro h
      obtain ⟨e, he, rfl⟩ := List.mem_map.mp h
      exact List.mem_map.mpr ⟨e, (mem e).mp he, rfl⟩
    · intro h
      obtain ⟨e, he, rfl⟩ := List.mem_map.mp h
      exact List.mem_map.mpr ⟨e, (mem e).mpr he, rfl⟩
  unfold canon byHead
  rw [es]
  refine congrArg _ (List.map_congr_left fun h hh => ?_)
  obtain ⟨e, he, rfl⟩ := List.mem_map.mp (mem_srt.mp hh).2
  rw [look_of FG.red.nd he, look_of F.red.nd ((mem e).mpr he)]
theorem foldl_acc (acc : Nat) : ∀ bs : List Nat, bs.foldl (fun x b => 2 * x + b) acc = acc * 2 ^ bs.length + bs.foldl (fun x b => 2 * x + b) 0
  | [] => by simp
  | b :: bs => by
    rw [List.foldl_cons, List.foldl_cons, foldl_acc (2 * acc + b) bs, foldl_acc (2 * 0 + b) bs, List.length_cons, Nat.pow_succ]
    rw [Nat.add_mul, show 2 * acc * 2 ^ bs.length = acc * (2 ^ bs.length * 2) by rw [Nat.mul_comm 2 acc, Nat.mul_assoc, Nat.mul_comm 2], show 2 * 0 + b = b by omega]
    omega
theorem place_bits : ∀ bs : List Nat, (∀ b ∈ bs, b < 2) → bs.foldl (fun x b => 2 * x + b) 0 < 2 ^ bs.length ∧ bs = bitsS bs.length (bs.foldl (fun x b => 2 * x + b) 0)
  | [], _ => ⟨by decide, rfl⟩
  | b :: bs, h => by
    obtain ⟨i1, i2⟩ := place_bits bs fun x hx => h x (List.mem_cons_of_mem _ hx)
    have b2 := h b List.mem_cons_self
    rw [List.foldl_cons, foldl_acc, List.length_cons]
    have e : (2 * 0 + b) * 2 ^ bs.length = topN bs.length (decide (b = 1)) := by
      unfold topN
      have : b = 0 ∨ b = 1 := by omega
      rcases this with rfl | rfl
      · simp
      · simp
    rw [e]
    refine ⟨top_lt i1 _, ?_⟩
    rw [bitsS_cons i1, ← i2]
    have : b = 0 ∨ b = 1 := by omega
    rcases this with rfl | rfl <;> rfl
theorem linesL_facts {ls : List (Nat × Nat)} (h : ∀ l ∈ ls, l.2 < 2) (hl : ls.length ≤ 20) : nice (.list (ls.map lineD)) = true ∧ (PyData.list (ls.map lineD)).depth ≤ 40 ∧ (PyData.list (ls.map lineD)).weight ≤ 2 ^ 20 := by
  refine ⟨niceAll_iff.mpr fun x hx => ?_, ?_, ?_⟩
  · obtain ⟨l, hl, rfl⟩ := List.mem_map.mp hx
    exact nice_line (h l hl)
  · show PyData.depthAll _ + 1 ≤ 40
    have := depth_lines ls
    omega
  · show PyData.weightAll _ ≤ 2 ^ 20
    have := weight_lines h
    omega
theorem bitsD_facts {n s : Nat} (n7 : n ≤ 7) : nice (bitsD n s) = true ∧ (bitsD n s).depth ≤ 1 ∧ (bitsD n s).weight ≤ 14 := by
  refine ⟨niceAll_iff.mpr fun x hx => ?_, ?_, ?_⟩
  · obtain ⟨i, hi, rfl⟩ := List.mem_map.mp hx
    obtain ⟨b, hb, rfl⟩ := List.mem_map.mp hi
    have := bitsS_lt n s b hb
    exact decide_eq_true (by show (b : Int).natAbs < 10 ^ 12; omega)
  · show PyData.depthAll _ + 1 ≤ 1
    rw [depth_ints]
    decide
  · show PyData.weightAll _ ≤ 14
    have := weight_ints (k := 1) (ns := (bitsS n s).map Int.ofNat) fun i hi => by
      obtain ⟨b, hb, rfl⟩ := List.mem_map.mp hi
      have := bitsS_lt n s b hb
      show (b : Int).natAbs < 2 ^ 1
      omega
    rw [List.length_map, bitsS_len] at this
    omega
def bitsLD (n : Nat) (hs : List (Nat × Nat × Nat)) : PyData := .list ((places n hs).map (bitsD n))
theorem dp_bitsL {K : PySem.W.Frag} {H : Hp} {n : Nat} : ∀ {us : List V} {ss : List Nat}, Paired (BitsV K n H) us ss → DpAll K H us (ss.map (bitsD n))
  | _, _, .nil => .nil
  | _, _, .cons h t => .cons (dp_bits h) (dp_bitsL t)
theorem depth_bitsL {n : Nat} (n7 : n ≤ 7) : ∀ ss : List Nat, PyData.depthAll (ss.map (bitsD n)) ≤ 1
  | [] => Nat.zero_le _
  | s :: ss => by
    show max (bitsD n s).depth (PyData.depthAll (ss.map (bitsD n))) ≤ 1
    exact Nat.max_le.mpr ⟨(bitsD_facts n7).2.1, depth_bitsL n7 ss⟩
theorem weight_bitsL {n : Nat} (n7 : n ≤ 7) : ∀ ss : List Nat, PyData.weightAll (ss.map (bitsD n)) ≤ 15 * ss.length
  | [] => Nat.zero_le _
  | s :: ss => by
    have w := (bitsD_facts (s := s) n7).2.2
    have i := weight_bitsL n7 ss
    show (bitsD n s).weight + 1 + PyData.weightAll (ss.map (bitsD n)) ≤ 15 * (ss.length + 1)
    omega
theorem bitsLD_facts {n : Nat} (n7 : n ≤ 7) (hs : List (Nat × Nat × Nat)) : nice (bitsLD n hs) = true ∧ (bitsLD n hs).depth ≤ 40 ∧ (bitsLD n hs).weight ≤ 2 ^ 20 := by
  refine ⟨niceAll_iff.mpr fun x hx => ?_, ?_, ?_⟩
  · obtain ⟨s, _, rfl⟩ := List.mem_map.mp hx
    exact (bitsD_facts n7).1
  · show PyData.depthAll _ + 1 ≤ 40
    have := depth_bitsL n7 (places n hs)
    omega
  · show PyData.weightAll _ ≤ 2 ^ 20
    have := weight_bitsL n7 (places n hs)
    have l : (places n hs).length ≤ 2 ^ n := by
      have := List.length_filter_le (inF n hs) (List.range (2 ^ n))
      rwa [List.length_range] at this
    have p : 2 ^ n ≤ 2 ^ 7 := Nat.pow_le_pow_right (by decide) n7
    omega
theorem all_inF {ls : List (Nat × Nat)} (hl : ∀ l ∈ ls, l.1 < 2 ^ 63 ∧ l.2 < 2) {hs : List (Nat × Nat × Nat)} (q : lflat ls = some hs) {n x : Nat} (hx : BitsOf (2 ^ n) x (fun s => ls.all fun l => holdsB l (fS n s))) : BitsOf (2 ^ n) x (inF n hs) := by
  have F := lflat_flat ls hl hs q
  refine hx.congr fun s _ => ?_
  unfold inF
  rw [Bool.eq_iff_iff, all_canon F, (lflat_sol ls hl).1 hs q, List.all_eq_true]
  exact ⟨fun h l hl => holdsB_iff.mp (h l hl), fun h l hl => holdsB_iff.mpr (h l hl)⟩
theorem cnt_flat {n x : Nat} {hs : List (Nat × Nat × Nat)} (F : FlatOk hs) (hlt : ∀ e ∈ hs, e.2.1 < 2 ^ n) (hx : BitsOf (2 ^ n) x (inF n hs)) : cntB (2 ^ n) x = 2 ^ (n - hs.length) := by
  rw [bits_cnt hx]
  have h := places_len F hlt
  have e := Nat.pow_sub_mul_pow 2 (heads_le F hlt)
  exact Nat.eq_of_mul_eq_mul_right (Nat.two_pow_pos hs.length) (h.trans e.symm)
theorem listed_flat {n x : Nat} {hs : List (Nat × Nat × Nat)} (hx : BitsOf (2 ^ n) x (inF n hs)) : ((List.range (2 ^ n)).filter fun s => x.testBit s) = places n hs :=
  List.filter_congr fun s hs => hx.2 s (List.mem_range.mp hs)
theorem told_bits {n x s : Nat} {hs : List (Nat × Nat × Nat)} (F : FlatOk hs) (hx : BitsOf (2 ^ n) x (inF n hs)) (h : s < 2 ^ n) {bs : List Nat} (e : bs = bitsS n s) : ((canon hs).all fun l => decide (wsum l.1 bs % 2 = l.2)) = x.testBit s := by
  rw [hx.2 s h]
  unfold inF
  rw [Bool.eq_iff_iff, List.all_eq_true, List.all_eq_true]
  have key : ∀ l ∈ canon hs, (decide (wsum l.1 bs % 2 = l.2) = true ↔ holdsB l (fS n s) = true) := fun l hl => by
    have l2 := (canon_lt F l hl).2
    have w := wsum_par l.1 bs (by rw [e]; exact bitsS_lt n s)
    have ef : (fun u => decide (bs.getD u 0 = 1)) = fS n s := by
      rw [e]
      exact funext (bitsS_getD n s)
    rw [ef] at w
    rw [decide_eq_true_eq, holdsB_iff]
    unfold holdsL at w ⊢
    rw [w]
    have w2 : wsum l.1 bs % 2 < 2 := Nat.mod_lt _ (by decide)
    show _ ↔ decide (wsum l.1 bs % 2 = 1) = decide (l.2 = 1)
    rw [decide_eq_decide]
    omega
  exact ⟨fun h l hl => (key l hl).mp (h l hl), fun h l hl => (key l hl).mpr (h l hl)⟩
theorem bit_test (x s : Nat) : decide (V.int (Builtin.bitAnd ((x : Int) / 2 ^ ((s : Int)).toNat) 1) = V.int 1) = x.testBit s := by
  have e1 : (x : Int) / 2 ^ ((s : Int)).toNat = ((x / 2 ^ s : Nat) : Int) := by
    rw [Int.toNat_natCast]
    norm_cast
  rw [e1, show (1 : Int) = ((1 : Nat) : Int) from rfl, and_nat, Nat.and_one_is_mod, Nat.testBit_eq_decide_div_mod_eq, decide_eq_decide]
  exact ⟨fun h => by have := V.int.inj h; omega, fun h => by rw [h]⟩
theorem paired_reverse {α β : Type} {R : α → β → Prop} : ∀ {xs : List α} {ys : List β}, PySem.Paired R xs ys → PySem.Paired R xs.reverse ys.reverse
  | _, _, .nil => .nil
  | _, _, .cons h t => by
    rw [List.reverse_cons, List.reverse_cons]
    exact PySem.Paired.snoc (paired_reverse t) h
theorem rev_flat {hs : List (Nat × Nat × Nat)} (F : FlatOk hs) : ∃ gs, lflat (canon hs).reverse = some gs ∧ canon gs = canon hs := by
  have hl : ∀ l ∈ (canon hs).reverse, l.1 < 2 ^ 63 ∧ l.2 < 2 := fun l h => canon_lt F l (List.mem_reverse.mp h)
  obtain ⟨a1, a2⟩ := lflat_sol _ hl
  have on : ∀ f, sol hs f ↔ ∀ l ∈ (canon hs).reverse, holdsL l f := fun f => by
    rw [← all_canon F f, List.all_eq_true]
    exact ⟨fun h l hl => holdsB_iff.mp (h l (List.mem_reverse.mp hl)), fun h l hl => holdsB_iff.mpr (h l (List.mem_reverse.mpr hl))⟩
  cases q : lflat (canon hs).reverse with
  | none =>
    obtain ⟨f, s⟩ := flat_has F
    exact absurd ((on f).mp s) (a2 q f)
  | some gs =>
    exact ⟨gs, rfl, canon_uniq (lflat_flat _ hl gs q) F fun f => (a1 gs q f).trans (on f).symm⟩
end Es
set_option Elab.async false
set_option linter.all false
set_option maxRecDepth 100000
set_option maxHeartbeats 4000000
namespace Es
open PySem PySem.Spec PyProof.Rows L2
def add3 (f g h : Nat → Bool) : Nat → Bool := fun u => f u ^^ g u ^^ h u
theorem par_add3 (m : Nat) (f g h : Nat → Bool) : par m (add3 f g h) = (par m f ^^ par m g ^^ par m h) := by
  unfold par parL
  have go : ∀ (L : List Nat) (a b c : Bool), L.foldl (fun b u => b ^^ (m.testBit u && add3 f g h u)) (a ^^ b ^^ c) =
      (L.foldl (fun b u => b ^^ (m.testBit u && f u)) a ^^ L.foldl (fun b u => b ^^ (m.testBit u && g u)) b ^^ L.foldl (fun b u => b ^^ (m.testBit u && h u)) c) := by
    intro L
    induction L with
    | nil => intro a b c; rfl
    | cons u L ih =>
      intro a b c
      rw [List.foldl_cons, List.foldl_cons, List.foldl_cons, List.foldl_cons, ← ih]
      congr 1
      unfold add3
      cases m.testBit u <;> cases a <;> cases b <;> cases c <;> cases f u <;> cases g u <;> cases h u <;> rfl
  exact go _ false false false
theorem sol_add3 {hs : List (Nat × Nat × Nat)} {f g h : Nat → Bool} (a : sol hs f) (b : sol hs g) (c : sol hs h) : sol hs (add3 f g h) := fun e he => by
  have a := a e he
  have b := b e he
  have c := c e he
  unfold holdsL at *
  rw [par_add3, a, b, c]
  cases decide (e.2.2 = 1) <;> rfl
def bitB (b : Nat) : Bool := decide (b = 1)
theorem wh_self {hs : List (Nat × Nat × Nat)} {m : Nat} (no : ∀ h ∈ hs.map (·.1), m.testBit h = false) (x : Nat) : wh hs (m, x) = (m, x) := by
  have go : ∀ (L : List (Nat × Nat × Nat)) (r : Nat × Nat), (∀ e ∈ L, m.testBit e.1 = false) → L.foldl (wh1 m) r = r := by
    intro L
    induction L with
    | nil => intro r _; rfl
    | cons e L ih =>
      intro r h
      rw [List.foldl_cons]
      have : wh1 m r e = r := by
        unfold wh1
        rw [if_neg (by rw [h e List.mem_cons_self]; exact Bool.false_ne_true)]
      rw [this]
      exact ih r fun x hx => h x (List.mem_cons_of_mem _ hx)
  exact go hs _ fun e he => no e.1 (List.mem_map.mpr ⟨e, he, rfl⟩)
def Bare_ (hs : List (Nat × Nat × Nat)) (m : Nat) : Prop := m ≠ 0 ∧ m < 2 ^ 63 ∧ ∀ h ∈ hs.map (·.1), m.testBit h = false
def Cuts (hs gs ks : List (Nat × Nat × Nat)) (m : Nat) : Prop := ∃ b : Bool, (∀ f, sol hs f → par m f = b → sol gs f) ∧ (∀ f, sol hs f → par m f = !b → sol ks f)
theorem bare_free {hs : List (Nat × Nat × Nat)} (F : FlatOk hs) {m : Nat} (B : Bare_ hs m) (b : Bool) : ∃ f, sol hs f ∧ par m f = b := by
  obtain ⟨f, s, h⟩ := flat_free F (l := (m, if b = true then 1 else 0)) B.2.1 (by show (if b = true then 1 else 0) < 2; cases b <;> decide) (by rw [wh_self B.2.2]; exact B.1)
  refine ⟨f, s, ?_⟩
  unfold holdsL at h
  rw [h]
  cases b <;> rfl
theorem red_bare {hs : List (Nat × Nat × Nat)} (F : FlatOk hs) {l : Nat × Nat} (h63 : l.1 < 2 ^ 63) (nz : (wh hs (l.1, 0)).1 ≠ 0) : Bare_ hs (wh hs (l.1, 0)).1 := by
  obtain ⟨a, b⟩ := wh_heads F.red (p := (l.1, 0)) h63
  exact ⟨nz, a, b⟩
theorem red_par {hs : List (Nat × Nat × Nat)} (F : FlatOk hs) (m : Nat) {f : Nat → Bool} (s : sol hs f) : par (wh hs (m, 0)).1 f = (par m f ^^ bitB (wh hs (m, 0)).2) := by
  have h := wh_holds F.bit s (l := (m, 0)) (by show 0 < 2; decide)
  have r2 := wh_bit F.bit (m, 0) (by show 0 < 2; decide)
  unfold holdsL at h
  unfold bitB
  have z : decide (((m, 0) : Nat × Nat).2 = 1) = false := rfl
  rw [z] at h
  have e : (wh hs (m, 0)).2 = 0 ∨ (wh hs (m, 0)).2 = 1 := by omega
  have h : par (wh hs (m, 0)).1 f = decide ((wh hs (m, 0)).2 = 1) ↔ par m f = false := h
  cases p : par m f <;> rw [p] at h
  · rw [h.mpr rfl, Bool.false_xor]
  · cases q : par (wh hs (m, 0)).1 f <;> rw [q] at h <;> rcases e with e | e <;> rw [e] at h ⊢ <;> simp at h ⊢
theorem cut_one {hs gs ks : List (Nat × Nat × Nat)} (F : FlatOk hs) (FG : FlatOk gs) {m k : Nat} (Bm : Bare_ hs m) (Bk : Bare_ hs k) {b : Bool} (h1 : ∀ f, sol hs f → par m f = !b → ¬ sol gs f) (hk : Cuts hs gs ks k) : k = m := by
  obtain ⟨c, c1, _⟩ := hk
  have on : ∀ f, sol hs f → par k f = c → par m f = b := fun f s e => by
    cases q : par m f <;> cases b <;> first | rfl | exact absurd (c1 f s e) (h1 f s q)
  refine Classical.byContradiction fun ne => ?_
  have Bx : Bare_ hs (m ^^^ k) := by
    refine ⟨fun z => ne ?_, xor_lt Bm.2.1 Bk.2.1, fun h hh => by rw [Nat.testBit_xor, Bm.2.2 h hh, Bk.2.2 h hh]; rfl⟩
    have := congrArg (· ^^^ k) z
    simp only [xx, Nat.zero_xor] at this
    exact this.symm
  obtain ⟨f0, s0, p0⟩ := bare_free F Bk c
  obtain ⟨f1, s1, p1⟩ := bare_free F Bx (b ^^ !c)
  obtain ⟨f2, s2, p2⟩ := bare_free F Bm (!b)
  have q0 := on f0 s0 p0
  rw [par_xor] at p1
  have q2 : par k f2 = !c := by
    cases z : par k f2 <;> cases c <;> first | rfl | (have := on f2 s2 z; rw [p2] at this; cases b <;> cases this)
  cases z : (par k f1 == c) with
  | true =>
    have z := beq_iff_eq.mp z
    have := on f1 s1 z
    rw [this, z] at p1
    cases b <;> cases c <;> cases p1
  | false =>
    have z1 : par k f1 = !c := by
      cases y : par k f1 <;> rw [y] at z <;> cases c <;> first | rfl | cases z
    have z2 : par m f1 = b := by
      rw [z1] at p1
      cases y : par m f1 <;> rw [y] at p1 <;> cases b <;> cases c <;> first | rfl | cases p1
    have e1 : par k (add3 f0 f1 f2) = c := by
      rw [par_add3, p0, z1, q2]
      cases c <;> rfl
    have e2 := on _ (sol_add3 s0 s1 s2) e1
    rw [par_add3, q0, z2, p2] at e2
    cases b <;> cases e2
def halfO (hs : List (Nat × Nat × Nat)) (m b : Nat) : List (Nat × Nat × Nat) := (lflat (canon hs ++ [(m, b)])).getD []
def partsB (hs : List (Nat × Nat × Nat)) (m : Nat) (gs ks : List (Nat × Nat × Nat)) : Bool :=
  if liesB (halfO hs m 0) (canon gs) = true then liesB (halfO hs m 1) (canon ks) else (liesB (halfO hs m 1) (canon gs) && liesB (halfO hs m 0) (canon ks))
def cutO (hs gs ks : List (Nat × Nat × Nat)) : Option Nat :=
  if liesB hs (canon gs) = true ∨ liesB hs (canon ks) = true then some 0 else
  match (canon gs).find? (fun l => decide ((wh hs (l.1, 0)).1 ≠ 0)) with
  | some l => if partsB hs (wh hs (l.1, 0)).1 gs ks = true then some (wh hs (l.1, 0)).1 else none
  | none => none
theorem half63 {hs : List (Nat × Nat × Nat)} (F : FlatOk hs) {m b : Nat} (hm : m < 2 ^ 63) (hb : b < 2) (nz : (wh hs (m, 0)).1 ≠ 0) :
    lflat (canon hs ++ [(m, b)]) = some (halfO hs m b) ∧ FlatOk (halfO hs m b) ∧ ∀ f, sol (halfO hs m b) f ↔ sol hs f ∧ par m f = bitB b := by
  have lt1 := canon_snoc_lt F hm hb
  have both : ∀ f, (∀ l ∈ canon hs ++ [(m, b)], holdsL l f) ↔ sol hs f ∧ holdsL (m, b) f := fun f => by
    rw [← all_canon F f, List.all_eq_true]
    constructor
    · exact fun h => ⟨fun l hl => holdsB_iff.mpr (h l (List.mem_append_left _ hl)), h _ (List.mem_append_right _ List.mem_cons_self)⟩
    · rintro ⟨h1, h2⟩ l hl
      rcases List.mem_append.mp hl with hl | hl
      · exact holdsB_iff.mp (h1 l hl)
      · have hl : l = (m, b) := by simpa using hl
        rw [hl]; exact h2
  obtain ⟨a1, a2⟩ := lflat_sol (canon hs ++ [(m, b)]) lt1
  unfold halfO
  cases q : lflat (canon hs ++ [(m, b)]) with
  | none =>
    obtain ⟨f, s1, s2⟩ := flat_free F (l := (m, b)) hm hb (by rw [← (wh_row hs m 0 b).1]; exact nz)
    exact absurd ((both f).mpr ⟨s1, s2⟩) (a2 q f)
  | some gs => exact ⟨rfl, lflat_flat _ lt1 gs q, fun f => (a1 gs q f).trans (both f)⟩
theorem parts_iff {hs gs ks : List (Nat × Nat × Nat)} (F : FlatOk hs) (FG : FlatOk gs) (FK : FlatOk ks) {m : Nat} (hm : m < 2 ^ 63) (nz : (wh hs (m, 0)).1 ≠ 0) (ng : ¬ liesB hs (canon gs) = true) : partsB hs m gs ks = true ↔ Cuts hs gs ks m := by
  obtain ⟨_, F0, z0⟩ := half63 F hm (b := 0) (by decide) nz
  obtain ⟨_, F1, z1⟩ := half63 F hm (b := 1) (by decide) nz
  rw [lies_iff F FG] at ng
  have b0 : bitB 0 = false := rfl
  have b1 : bitB 1 = true := rfl
  have l0 : ∀ {xs : List (Nat × Nat × Nat)}, FlatOk xs → (liesB (halfO hs m 0) (canon xs) = true ↔ ∀ f, sol hs f → par m f = false → sol xs f) := fun X => by
    rw [lies_iff F0 X]
    exact ⟨fun h f s e => h f ((z0 f).mpr ⟨s, e⟩), fun h f s => h f ((z0 f).mp s).1 ((z0 f).mp s).2⟩
  have l1 : ∀ {xs : List (Nat × Nat × Nat)}, FlatOk xs → (liesB (halfO hs m 1) (canon xs) = true ↔ ∀ f, sol hs f → par m f = true → sol xs f) := fun X => by
    rw [lies_iff F1 X]
    exact ⟨fun h f s e => h f ((z1 f).mpr ⟨s, e⟩), fun h f s => h f ((z1 f).mp s).1 ((z1 f).mp s).2⟩
  unfold partsB
  by_cases c : liesB (halfO hs m 0) (canon gs) = true
  · rw [if_pos c, l1 FK]
    have c := (l0 FG).mp c
    constructor
    · exact fun h => ⟨false, c, h⟩
    · rintro ⟨b, h1, h2⟩
      cases b with
      | false => exact h2
      | true =>
        refine absurd (fun f s => ?_) ng
        cases q : par m f with
        | false => exact c f s q
        | true => exact h1 f s q
  · rw [if_neg c, Bool.and_eq_true, l1 FG, l0 FK]
    rw [l0 FG] at c
    constructor
    · exact fun h => ⟨true, h.1, h.2⟩
    · rintro ⟨b, h1, h2⟩
      cases b with
      | false => exact absurd h1 c
      | true => exact ⟨h1, h2⟩
theorem cut_none {hs gs ks : List (Nat × Nat × Nat)} (F : FlatOk hs) (FG : FlatOk gs) (FK : FlatOk ks) (no : ¬ ∀ f, sol hs f → sol gs f ∨ sol ks f) : cutO hs gs ks = none := by
  have n1 : ¬ liesB hs (canon gs) = true := fun z => no fun f s => .inl ((lies_iff F FG).mp z f s)
  have n2 : ¬ liesB hs (canon ks) = true := fun z => no fun f s => .inr ((lies_iff F FK).mp z f s)
  unfold cutO
  rw [if_neg fun z => z.elim n1 n2]
  cases q : (canon gs).find? (fun l => decide ((wh hs (l.1, 0)).1 ≠ 0)) with
  | none => rfl
  | some l =>
    dsimp only
    have nz : (wh hs (l.1, 0)).1 ≠ 0 := by
      have q2 := List.find?_some q
      exact of_decide_eq_true q2
    have l63 := (canon_lt FG l (List.mem_of_find?_eq_some q)).1
    have B := red_bare F l63 nz
    refine if_neg fun z => no fun f s => ?_
    obtain ⟨b, h1, h2⟩ := (parts_iff F FG FK B.2.1 (by rw [wh_self B.2.2]; exact B.1) n1).mp z
    by_cases e : par (wh hs (l.1, 0)).1 f = b
    · exact .inl (h1 f s e)
    · refine .inr (h2 f s ?_)
      cases b <;> cases y : par (wh hs (l.1, 0)).1 f <;> rw [y] at e <;> first | rfl | exact absurd rfl e
theorem cut_some {hs gs ks : List (Nat × Nat × Nat)} (F : FlatOk hs) (FG : FlatOk gs) (FK : FlatOk ks) (n1 : ¬ liesB hs (canon gs) = true) (n2 : ¬ liesB hs (canon ks) = true) (all : ∀ f, sol hs f → sol gs f ∨ sol ks f) :
    ∃ m, cutO hs gs ks = some m ∧ Bare_ hs m ∧ Cuts hs gs ks m ∧ ∀ k, Bare_ hs k → Cuts hs gs ks k → k = m := by
  have g1 := fun z => n1 ((lies_iff F FG).mpr z)
  have g2 := fun z => n2 ((lies_iff F FK).mpr z)
  unfold cutO
  rw [if_neg fun z => z.elim n1 n2]
  have line_par : ∀ l ∈ canon gs, ∀ f, sol hs f → (holdsL l f ↔ par (wh hs (l.1, 0)).1 f = (bitB l.2 ^^ bitB (wh hs (l.1, 0)).2)) := fun l hl f s => by
    rw [red_par F l.1 s]
    unfold holdsL bitB
    cases par l.1 f <;> cases decide (l.2 = 1) <;> cases decide ((wh hs (l.1, 0)).2 = 1) <;> simp
  cases q : (canon gs).find? (fun l => decide ((wh hs (l.1, 0)).1 ≠ 0)) with
  | none =>
    exfalso
    rw [List.find?_eq_none] at q
    have told : ∀ l ∈ canon gs, (wh hs (l.1, 0)).1 = 0 := fun l hl => by
      have := q l hl
      simpa using this
    refine g2 fun f s => ?_
    rcases all f s with h | h
    · refine absurd (fun g sg => (all_canon FG g).mp (List.all_eq_true.mpr fun l hl => holdsB_iff.mpr ?_)) g1
      have hf := holdsB_iff.mp (List.all_eq_true.mp ((all_canon FG f).mpr h) l hl)
      rw [line_par l hl f s, told l hl, par_zero] at hf
      rw [line_par l hl g sg, told l hl, par_zero]
      exact hf
    · exact h
  | some l =>
    dsimp only
    have hl := List.mem_of_find?_eq_some q
    have nz : (wh hs (l.1, 0)).1 ≠ 0 := by
      have q2 := List.find?_some q
      exact of_decide_eq_true q2
    have B := red_bare F (canon_lt FG l hl).1 nz
    have lp := line_par l hl
    generalize (bitB l.2 ^^ bitB (wh hs (l.1, 0)).2) = b at lp
    generalize (wh hs (l.1, 0)).1 = m at B lp
    have out : ∀ f, sol hs f → par m f = !b → ¬ sol gs f := fun f s e z => by
      have := (lp f s).mp (holdsB_iff.mp (List.all_eq_true.mp ((all_canon FG f).mpr z) l hl))
      rw [e] at this
      cases b <;> cases this
    have inK : ∀ f, sol hs f → par m f = !b → sol ks f := fun f s e => (all f s).resolve_left (out f s e)
    have C : Cuts hs gs ks m := by
      refine ⟨b, fun f s e => ?_, inK⟩
      refine Classical.byContradiction fun ng => ?_
      have fk := (all f s).resolve_left ng
      obtain ⟨g, sg, eg⟩ := bare_free F B (!b)
      refine g2 fun h sh => ?_
      rcases all h sh with hg | hk
      · have eh : par m h = b := by
          cases y : par m h <;> cases b <;> first | rfl | exact absurd hg (out h sh y)
        have e3 : par m (add3 f h g) = !b := by
          rw [par_add3, e, eh, eg]
          cases b <;> rfl
        have k3 := inK _ (sol_add3 s sh sg) e3
        have k4 := sol_add3 fk (inK g sg eg) k3
        have : add3 f g (add3 f h g) = h := by
          funext u
          unfold add3
          cases f u <;> cases g u <;> cases h u <;> rfl
        rwa [this] at k4
      · exact hk
    refine ⟨m, if_pos ((parts_iff F FG FK B.2.1 (by rw [wh_self B.2.2]; exact B.1) n1).mpr C), B, C, fun k Bk Ck => cut_one F FG B Bk out Ck⟩
theorem find_at {α : Type} {p : α → Bool} : ∀ {L : List α} {i : Nat} {l : α}, (∀ x ∈ L.take i, p x = false) → L[i]? = some l → p l = true → L.find? p = some l
  | [], _, _, _, h, _ => by cases h
  | x :: L, 0, l, _, h, e => by
    have h : x = l := Option.some.inj h
    subst h
    exact List.find?_cons_of_pos e
  | x :: L, i + 1, l, a, h, e => by
    rw [List.find?_cons_of_neg (by rw [a x List.mem_cons_self]; exact Bool.false_ne_true)]
    exact find_at (fun y hy => a y (List.mem_cons_of_mem _ hy)) (by simpa using h) e
theorem cut_at {hs gs ks : List (Nat × Nat × Nat)} (n1 : ¬ liesB hs (canon gs) = true) (n2 : ¬ liesB hs (canon ks) = true) {i : Nat} {l : Nat × Nat} (a : ∀ k ∈ (canon gs).take i, (wh hs (k.1, 0)).1 = 0) (h : (canon gs)[i]? = some l) (nz : (wh hs (l.1, 0)).1 ≠ 0) :
    cutO hs gs ks = if partsB hs (wh hs (l.1, 0)).1 gs ks = true then some (wh hs (l.1, 0)).1 else none := by
  unfold cutO
  rw [if_neg fun z => z.elim n1 n2, find_at (p := fun l => decide ((wh hs (l.1, 0)).1 ≠ 0)) (fun k hk => by rw [decide_eq_false]; exact fun z => z (a k hk)) h (decide_eq_true nz)]
theorem cut_end {hs gs ks : List (Nat × Nat × Nat)} (n1 : ¬ liesB hs (canon gs) = true) (n2 : ¬ liesB hs (canon ks) = true) (a : ∀ k ∈ canon gs, (wh hs (k.1, 0)).1 = 0) : cutO hs gs ks = none := by
  unfold cutO
  rw [if_neg fun z => z.elim n1 n2, List.find?_eq_none.mpr fun k hk => by rw [decide_eq_false (fun z => z (a k hk))]; exact Bool.false_ne_true]
theorem snocN {P : List Nat → Prop} (h0 : P []) (h1 : ∀ us u, P us → P (us ++ [u])) (us : List Nat) : P us := by
  have go : ∀ n, ∀ us : List Nat, us.length = n → P us := by
    intro n
    induction n with
    | zero =>
      intro us h
      rw [List.length_eq_zero_iff.mp h]
      exact h0
    | succ n ih =>
      intro us h
      have ne : us ≠ [] := fun z => by rw [z] at h; cases h
      rw [← List.dropLast_concat_getLast ne]
      exact h1 _ _ (ih _ (by rw [List.length_dropLast, h]; rfl))
  exact go _ us rfl
def mks (us : List Nat) : List Nat := us.foldl (fun ms u => ms ++ ms.map fun m => m ||| 2 ^ u) [0]
theorem mks_snoc (us : List Nat) (u : Nat) : mks (us ++ [u]) = mks us ++ (mks us).map fun m => m ||| 2 ^ u := by
  unfold mks
  rw [List.foldl_append]
  rfl
theorem mks_take {us : List Nat} {i u : Nat} (h : us[i]? = some u) : mks (us.take (i + 1)) = mks (us.take i) ++ (mks (us.take i)).map fun m => m ||| 2 ^ u := by
  obtain ⟨hi, e⟩ := List.getElem?_eq_some_iff.mp h
  rw [List.take_succ_eq_append_getElem hi, e, mks_snoc]
theorem mks_mem (us : List Nat) : ∀ m, m ∈ mks us ↔ ∀ j, m.testBit j = true → j ∈ us := by
  refine snocN (P := fun us => ∀ m, m ∈ mks us ↔ ∀ j, m.testBit j = true → j ∈ us) (fun m => ?_) (fun us u ih m => ?_) us
  · unfold mks
    rw [List.foldl_nil, List.mem_singleton]
    constructor
    · intro h j hj
      rw [h, Nat.zero_testBit] at hj
      cases hj
    · intro h
      refine Nat.eq_of_testBit_eq fun j => ?_
      rw [Nat.zero_testBit]
      cases q : m.testBit j with
      | false => rfl
      | true => cases h j q
  · rw [mks_snoc, List.mem_append]
    constructor
    · rintro (h | h) j hj
      · exact List.mem_append_left _ ((ih m).mp h j hj)
      · obtain ⟨x, hx, rfl⟩ := List.mem_map.mp h
        rw [Nat.testBit_or, Bool.or_eq_true] at hj
        rcases hj with hj | hj
        · exact List.mem_append_left _ ((ih x).mp hx j hj)
        · by_cases z : u = j
          · rw [z]
            exact List.mem_append_right _ List.mem_cons_self
          · rw [Nat.testBit_two_pow_of_ne z] at hj
            cases hj
    · intro h
      cases q : m.testBit u with
      | false =>
        refine .inl ((ih m).mpr fun j hj => ?_)
        rcases List.mem_append.mp (h j hj) with z | z
        · exact z
        · rw [List.mem_singleton.mp z, q] at hj
          cases hj
      | true =>
        refine .inr (List.mem_map.mpr ⟨m ^^^ 2 ^ u, (ih _).mpr fun j hj => ?_, ?_⟩)
        · rw [bit_toggle] at hj
          by_cases z : j = u
          · rw [if_pos z, z, q] at hj
            cases hj
          · rw [if_neg z] at hj
            rcases List.mem_append.mp (h j hj) with y | y
            · exact y
            · exact absurd (List.mem_singleton.mp y) z
        · refine Nat.eq_of_testBit_eq fun j => ?_
          rw [Nat.testBit_or, bit_toggle]
          by_cases z : j = u
          · rw [if_pos z, z, q, Nat.testBit_two_pow_self]
            rfl
          · rw [if_neg z, Nat.testBit_two_pow_of_ne (Ne.symm z), Bool.or_false]
theorem mks_nodup (us : List Nat) : us.Nodup → (mks us).Nodup := by
  refine snocN (P := fun us => us.Nodup → (mks us).Nodup) (fun _ => ?_) (fun us u ih nd => ?_) us
  · exact List.pairwise_singleton _ _
  · obtain ⟨n1, n2, n3⟩ := List.nodup_append.mp nd
    have uno : ∀ x ∈ mks us, x.testBit u = false := fun x hx => by
      cases q : x.testBit u with
      | false => rfl
      | true => exact absurd rfl (n3 u ((mks_mem us x).mp hx u q) u List.mem_cons_self)
    rw [mks_snoc]
    refine List.nodup_append.mpr ⟨ih n1, ?_, fun x hx y hy => ?_⟩
    · refine List.pairwise_map.mpr ((ih n1).imp_of_mem fun {x y} hx hy ne z => ne ?_)
      refine Nat.eq_of_testBit_eq fun j => ?_
      have z := congrArg (fun m => m.testBit j) z
      simp only [Nat.testBit_or] at z
      by_cases e : j = u
      · rw [e, uno x hx, uno y hy]
      · rw [Nat.testBit_two_pow_of_ne (Ne.symm e), Bool.or_false, Bool.or_false] at z
        exact z
    · obtain ⟨z, _, rfl⟩ := List.mem_map.mp hy
      intro e
      have := uno x hx
      rw [e, Nat.testBit_or, Nat.testBit_two_pow_self, Bool.or_true] at this
      cases this
theorem mks_len (us : List Nat) : (mks us).length = 2 ^ us.length := by
  refine snocN (P := fun us => (mks us).length = 2 ^ us.length) rfl (fun us u ih => ?_) us
  rw [mks_snoc, List.length_append, List.length_map, ih, List.length_append, List.length_singleton, Nat.pow_succ]
  omega
theorem mks_head (us : List Nat) : ∃ t, mks us = 0 :: t := by
  refine snocN (P := fun us => ∃ t, mks us = 0 :: t) ⟨[], rfl⟩ (fun us u ih => ?_) us
  obtain ⟨t, e⟩ := ih
  exact ⟨t ++ (0 :: t).map fun m => m ||| 2 ^ u, by rw [mks_snoc, e]; rfl⟩
def sp_parts (K : PySem.W.Frag) : Sp := fun vs H Q _ => ∃ (r v u x : V) (m : Nat) (hs gs ks : List (Nat × Nat × Nat)), vs = [r, v, u, x] ∧ SumV K H r m ∧ m < 2 ^ 63 ∧ FlatV K H v hs ∧ FlatOk hs ∧ FlatV K H u gs ∧ FlatOk gs ∧ FlatV K H x ks ∧ FlatOk ks ∧ (wh hs (m, 0)).1 ≠ 0 ∧
  ∀ H', Same H H' → Q (.bl (partsB hs m gs ks)) H'
def sp_cut_by (K : PySem.W.Frag) : Sp := fun vs H Q _ => ∃ (v u x : V) (hs gs ks : List (Nat × Nat × Nat)), vs = [v, u, x] ∧ FlatV K H v hs ∧ FlatOk hs ∧ FlatV K H u gs ∧ FlatOk gs ∧ FlatV K H x ks ∧ FlatOk ks ∧
  ∀ H' w, Same H H' → OptSum K H' w (cutO hs gs ks) → Q w H'
def sp_lies_in_both (K : PySem.W.Frag) : Sp := fun vs H Q _ => ∃ (v u x : V) (hs gs ks : List (Nat × Nat × Nat)), vs = [v, u, x] ∧ FlatV K H v hs ∧ FlatOk hs ∧ FlatV K H u gs ∧ FlatOk gs ∧ FlatV K H x ks ∧ FlatOk ks ∧
  ∀ H', Same H H' → Q (.bl (cutO hs gs ks).isSome) H'
def sp_law_new_row (K : PySem.W.Frag) : Sp := fun vs H Q _ => ∃ (b c : Addr) (n : Nat) (v : V) (hs : List (Nat × Nat × Nat)), vs = [.ref b, .int (n : Int), v] ∧ BagAt K H b c ∧ n ≤ 62 ∧ FlatV K H v hs ∧ FlatOk hs ∧ (∀ e ∈ hs, e.2.1 < 2 ^ n) ∧ hs.length < n ∧
  ∀ H' u m, But b H H' → BagAt K H' b c → SumV K H' u m → m < 2 ^ n → (wh hs (m, 0)).1 ≠ 0 → Q u H'
def Besides (n : Nat) (hs : List (Nat × Nat × Nat)) (ms : List Nat) : Prop := ms.Nodup ∧ ∀ m, m ∈ ms ↔ m < 2 ^ n ∧ m ≠ 0 ∧ ∀ h ∈ hs.map (·.1), m.testBit h = false
def freeU (n : Nat) (hs : List (Nat × Nat × Nat)) : List Nat := (List.range n).filter fun u => decide (u ∉ srt (hs.map (·.1)))
theorem besides_mks {n : Nat} {hs : List (Nat × Nat × Nat)} (h63 : ∀ h ∈ hs.map (·.1), h < 63) {t : List Nat} (e : mks (freeU n hs) = 0 :: t) : Besides n hs t := by
  have nd : (freeU n hs).Nodup := List.Pairwise.filter _ (List.nodup_range)
  have nm := mks_nodup _ nd
  rw [e] at nm
  obtain ⟨n0, nt⟩ := List.nodup_cons.mp nm
  refine ⟨nt, fun m => ?_⟩
  have mm := mks_mem (freeU n hs) m
  rw [e, List.mem_cons] at mm
  have inF : ∀ j, j ∈ freeU n hs ↔ j < n ∧ j ∉ hs.map (·.1) := fun j => by
    unfold freeU
    rw [List.mem_filter, List.mem_range, decide_eq_true_eq, mem_srt]
    constructor
    · exact fun h => ⟨h.1, fun z => h.2 ⟨h63 j z, z⟩⟩
    · exact fun h => ⟨h.1, fun z => h.2 z.2⟩
  constructor
  · intro h
    have bits := mm.mp (.inr h)
    refine ⟨Nat.lt_pow_two_of_testBit _ fun j hj => ?_, fun z => n0 (z ▸ h), fun g hg => ?_⟩
    · cases q : m.testBit j with
      | false => rfl
      | true => exact absurd ((inF j).mp (bits j q)).1 (by omega)
    · cases q : m.testBit g with
      | false => rfl
      | true => exact absurd hg ((inF g).mp (bits g q)).2
  · rintro ⟨h1, h2, h3⟩
    refine (mm.mpr fun j hj => (inF j).mpr ⟨?_, fun z => ?_⟩).resolve_left h2
    · refine Nat.lt_of_not_le fun z => ?_
      rw [Nat.testBit_lt_two_pow (Nat.lt_of_lt_of_le h1 (Nat.pow_le_pow_right (by decide) z))] at hj
      cases hj
    · rw [h3 j z] at hj
      cases hj
def sp_law_rows_beside (K : PySem.W.Frag) : Sp := fun vs H Q _ => ∃ (n : Nat) (v : V) (hs : List (Nat × Nat × Nat)), vs = [.int (n : Int), v] ∧ n ≤ 7 ∧ FlatV K H v hs ∧ FlatOk hs ∧ (∀ e ∈ hs, e.2.1 < 2 ^ n) ∧
  ∀ H' a us ms, Same H H' → H a = none → H' a = some (.lst us) → Paired (SumV K H') us ms → Besides n hs ms → Q (.ref a) H'
theorem BitsOf.or {N x y : Nat} {p q : Nat → Bool} (hx : BitsOf N x p) (hy : BitsOf N y q) : BitsOf N (x ||| y) (fun s => p s || q s) :=
  ⟨Nat.or_lt_two_pow hx.1 hy.1, fun s hs => by rw [Nat.testBit_or, hx.2 s hs, hy.2 s hs]⟩
theorem BitsOf.le {N x y : Nat} {p q : Nat → Bool} (hx : BitsOf N x p) (hy : BitsOf N y q) : x &&& y = x ↔ ∀ s, s < N → p s = true → q s = true := by
  constructor
  · intro e s hs h
    have a := hx.2 s hs
    rw [← e, Nat.testBit_and, hx.2 s hs, hy.2 s hs, h, Bool.true_and] at a
    exact a
  · intro h
    refine (hx.and hy).uniq (hx.congr fun s hs => ?_)
    cases q' : p s with
    | false => rfl
    | true => rw [h s hs q']; rfl
abbrev FB (n : Nat) (hs : List (Nat × Nat × Nat)) (x : Nat) : Prop := BitsOf (2 ^ n) x (fun s => (canon hs).all fun l => holdsB l (fS n s))
theorem cover_iff {hs gs ks : List (Nat × Nat × Nat)} (F : FlatOk hs) (FG : FlatOk gs) (FK : FlatOk ks) {n x y z : Nat} (lh : ∀ e ∈ hs, e.2.1 < 2 ^ n) (lg : ∀ e ∈ gs, e.2.1 < 2 ^ n) (lk : ∀ e ∈ ks, e.2.1 < 2 ^ n)
    (hx : FB n hs x) (hy : FB n gs y) (hz : FB n ks z) : x &&& (y ||| z) = x ↔ ∀ f, sol hs f → sol gs f ∨ sol ks f := by
  rw [hx.le (hy.or hz)]
  constructor
  · intro h f sf
    obtain ⟨k, k1, k2⟩ := holds_num (n := n) f
    have h1 := h k k1 ((all_canon F _).mpr fun e he => (k2 e.2 (lh e he)).mpr (sf e he))
    rw [Bool.or_eq_true, all_canon FG, all_canon FK] at h1
    exact h1.imp (fun q e he => (k2 e.2 (lg e he)).mp (q e he)) (fun q e he => (k2 e.2 (lk e he)).mp (q e he))
  · intro h s _ hs'
    rw [all_canon F] at hs'
    rw [Bool.or_eq_true, all_canon FG, all_canon FK]
    exact h _ hs'
noncomputable def cutsC (hs gs ks : List (Nat × Nat × Nat)) (m : Nat) : Bool := @decide (Cuts hs gs ks m) (Classical.propDecidable _)
theorem cutsC_iff {hs gs ks : List (Nat × Nat × Nat)} {m : Nat} : cutsC hs gs ks m = true ↔ Cuts hs gs ks m := by
  unfold cutsC
  exact @decide_eq_true_iff (Cuts hs gs ks m) (Classical.propDecidable _)
theorem half_le {hs gs : List (Nat × Nat × Nat)} (F : FlatOk hs) (FG : FlatOk gs) {n m b x y w : Nat} (lh : ∀ e ∈ hs, e.2.1 < 2 ^ n) (lg : ∀ e ∈ gs, e.2.1 < 2 ^ n) (hm : m < 2 ^ n)
    (hx : FB n hs x) (hy : FB n gs y) (hw : BitsOf (2 ^ n) w (fun s => holdsB (m, b) (fS n s))) : (x &&& w) &&& y = (x &&& w) ↔ ∀ f, sol hs f → par m f = bitB b → sol gs f := by
  rw [(hx.and hw).le hy]
  constructor
  · intro h f sf e
    obtain ⟨k, k1, k2⟩ := holds_num (n := n) f
    have h1 := h k k1 (by
      rw [Bool.and_eq_true, all_canon F, holdsB_iff]
      exact ⟨fun e he => (k2 e.2 (lh e he)).mpr (sf e he), (k2 (m, b) hm).mpr e⟩)
    rw [all_canon FG] at h1
    exact fun e he => (k2 e.2 (lg e he)).mp (h1 e he)
  · intro h s _ hs'
    rw [Bool.and_eq_true, all_canon F, holdsB_iff] at hs'
    rw [all_canon FG]
    exact h _ hs'.1 hs'.2
theorem cut_lt {hs gs ks : List (Nat × Nat × Nat)} (FG : FlatOk gs) {n m : Nat} (lh : ∀ e ∈ hs, e.2.1 < 2 ^ n) (lg : ∀ e ∈ gs, e.2.1 < 2 ^ n) (e : cutO hs gs ks = some m) : m < 2 ^ n := by
  unfold cutO at e
  split at e
  · rw [← Option.some.inj e]
    exact Nat.two_pow_pos n
  · split at e
    · rename_i l q
      split at e
      · rw [← Option.some.inj e]
        exact wh_lt lh _ (canon_below FG lg l (List.mem_of_find?_eq_some q)).1
      · cases e
    · cases e
theorem ones_ne {k : Nat} (h : k ≤ 2) : ∃ d, (∀ {K : PySem.W.Frag} {H : Hp} {a : Addr}, H a = some (.lst (List.replicate k (V.int 1))) → Dp K H (.ref a) d) ∧ SeqAt.shaped d = true ∧ (!PyData.eqv d (.list [])) = decide (0 < k) := by
  have h : k = 0 ∨ k = 1 ∨ k = 2 := by omega
  rcases h with rfl | rfl | rfl
  · exact ⟨.list [], fun e => .lst (.inl (.inl e)) .nil, rfl, rfl⟩
  · exact ⟨.list [.int 1], fun e => .lst (.inl (.inl e)) (.cons (.int 1) .nil), rfl, rfl⟩
  · exact ⟨.list [.int 1, .int 1], fun e => .lst (.inl (.inl e)) (.cons (.int 1) (.cons (.int 1) .nil)), rfl, rfl⟩
def FlatN (K : PySem.W.Frag) (H : Hp) (n : Nat) (v : V) (hs : List (Nat × Nat × Nat)) : Prop := FlatV K H v hs ∧ FlatOk hs ∧ ∀ e ∈ hs, e.2.1 < 2 ^ n
theorem FlatN.same {K : PySem.W.Frag} {H H' : Hp} {n : Nat} {v : V} {hs : List (Nat × Nat × Nat)} (s : Same H H') (h : FlatN K H n v hs) : FlatN K H' n v hs := ⟨h.1.same s, h.2⟩
def Trip (K : PySem.W.Frag) (H : Hp) (n : Nat) (y : V) : Prop := ∃ tp v u x hs gs ks, y = .ref tp ∧ SqT K H tp [v, u, x] ∧ FlatN K H n v hs ∧ FlatN K H n u gs ∧ FlatN K H n x ks
theorem Trip.same {K : PySem.W.Frag} {H H' : Hp} {n : Nat} {y : V} (s : Same H H') (h : Trip K H n y) : Trip K H' n y := by
  obtain ⟨tp, v, u, x, hs, gs, ks, e, h1, h2, h3, h4⟩ := h
  exact ⟨tp, v, u, x, hs, gs, ks, e, sqT_same s h1, h2.same s, h3.same s, h4.same s⟩
def tripD (hs gs ks : List (Nat × Nat × Nat)) : PyData := .tuple [flatD hs, flatD gs, flatD ks]
theorem tripD_facts {hs gs ks : List (Nat × Nat × Nat)} (F : FlatOk hs) (FG : FlatOk gs) (FK : FlatOk ks) : nice (tripD hs gs ks) = true ∧ (tripD hs gs ks).depth ≤ 40 ∧ (tripD hs gs ks).weight ≤ 2 ^ 20 := by
  obtain ⟨a1, a2, a3⟩ := flatD_facts F
  obtain ⟨b1, b2, b3⟩ := flatD_facts FG
  obtain ⟨c1, c2, c3⟩ := flatD_facts FK
  refine ⟨?_, ?_, ?_⟩
  · refine niceAll_iff.mpr fun x hx => ?_
    rcases List.mem_cons.mp hx with rfl | hx
    · exact a1
    · rcases List.mem_cons.mp hx with rfl | hx
      · exact b1
      · rcases List.mem_cons.mp hx with rfl | hx
        · exact c1
        · cases hx
  · show max (flatD hs).depth (max (flatD gs).depth (max (flatD ks).depth 0)) + 1 ≤ 40
    have := Nat.max_le.mpr ⟨a2, Nat.max_le.mpr ⟨b2, Nat.max_le.mpr ⟨c2, Nat.zero_le 3⟩⟩⟩
    omega
  · show (flatD hs).weight + 1 + ((flatD gs).weight + 1 + ((flatD ks).weight + 1 + 0)) ≤ 2 ^ 20
    omega
def cutD (o : Option Nat) : PyData := .list [optD o, .bool o.isSome]
theorem cutD_facts (o : Option Nat) : nice (cutD o) = true ∧ (cutD o).depth ≤ 40 ∧ (cutD o).weight ≤ 2 ^ 20 := by
  refine ⟨niceAll_iff.mpr fun x hx => ?_, ?_, ?_⟩
  · rcases List.mem_cons.mp hx with rfl | hx
    · exact nice_optD o
    · rcases List.mem_cons.mp hx with rfl | hx
      · rfl
      · cases hx
  · show max (optD o).depth (max (PyData.depth (.bool o.isSome)) 0) + 1 ≤ 40
    have : (optD o).depth ≤ 1 := by
      cases o with
      | none => exact Nat.zero_le _
      | some m => rw [show optD (some m) = sumD m from rfl, depth_sumD]; exact Nat.le_refl _
    have h2 : PyData.depth (.bool o.isSome) = 0 := rfl
    rw [h2]
    have := Nat.max_le.mpr ⟨this, (show max 0 0 ≤ 1 by decide)⟩
    omega
  · show (optD o).weight + 1 + (PyData.weight (.bool o.isSome) + 1 + 0) ≤ 2 ^ 20
    have w1 : (optD o).weight ≤ 10000 := by
      cases o with
      | none => decide
      | some m => exact Nat.le_trans (weight_sumD m) (by decide)
    have w2 : PyData.weight (.bool o.isSome) ≤ 10 := by
      generalize o.isSome = z
      cases z <;> decide
    omega
theorem optSum_same {K : PySem.W.Frag} {H H' : Hp} {v : V} {o : Option Nat} (s : Same H H') (h : OptSum K H v o) : OptSum K H' v o := by
  cases o with
  | none => exact h
  | some m => exact SumV.same s h
theorem opt_some {K : PySem.W.Frag} {H : Hp} {v : V} {o : Option Nat} (h : OptSum K H v o) : (!decide (v = .non)) = o.isSome := by
  cases o with
  | none =>
    have h : v = .non := h
    subst h
    rfl
  | some m =>
    obtain ⟨a, rfl, _⟩ := h
    rfl
theorem filter_one {ms : List Nat} (nd : ms.Nodup) {p : Nat → Bool} {m : Nat} (hm : m ∈ ms) (h : ∀ k ∈ ms, p k = true ↔ k = m) : ms.filter p = [m] := by
  induction ms with
  | nil => cases hm
  | cons k ms ih =>
    obtain ⟨n1, n2⟩ := List.nodup_cons.mp nd
    by_cases z : k = m
    · subst z
      rw [List.filter_cons_of_pos ((h k List.mem_cons_self).mpr rfl), List.filter_eq_nil_iff.mpr fun x hx q => n1 ?_]
      rw [← (h x (List.mem_cons_of_mem _ hx)).mp q]
      exact hx
    · rw [List.filter_cons_of_neg fun q => z ((h k List.mem_cons_self).mp q)]
      exact ih n2 ((List.mem_cons.mp hm).resolve_left fun q => z q.symm) fun x hx => h x (List.mem_cons_of_mem _ hx)
def sp_law_cut_due (K : PySem.W.Frag) : Sp := fun vs H Q _ => ∃ (r v u x : V) (n : Nat) (hs gs ks : List (Nat × Nat × Nat)), vs = [r, v, u, x] ∧ RoomV K H r n ∧ n ≤ 7 ∧ FlatV K H v hs ∧ FlatOk hs ∧ (∀ e ∈ hs, e.2.1 < 2 ^ n) ∧ FlatV K H u gs ∧ FlatOk gs ∧ (∀ e ∈ gs, e.2.1 < 2 ^ n) ∧ FlatV K H x ks ∧ FlatOk ks ∧ (∀ e ∈ ks, e.2.1 < 2 ^ n) ∧
  ∀ H' w, Same H H' → OptSum K H' w (cutO hs gs ks) → Q w H'
theorem lflat_len (ls : List (Nat × Nat)) : (∀ l ∈ ls, l.1 < 2 ^ 63 ∧ l.2 < 2) → ∀ hs, lflat ls = some hs → hs.length ≤ ls.length := by
  refine snoc_ind (P := fun ls => (∀ l ∈ ls, l.1 < 2 ^ 63 ∧ l.2 < 2) → ∀ hs, lflat ls = some hs → hs.length ≤ ls.length) (fun _ hs e => ?_) (fun ls l ih h hs e => ?_) ls
  · have e := Option.some.inj e
    rw [← e]
    exact Nat.le_refl _
  · have h' : ∀ x ∈ ls, x.1 < 2 ^ 63 ∧ x.2 < 2 := fun x hx => h x (List.mem_append_left _ hx)
    rw [lflat_snoc] at e
    cases q : lflat ls with
    | none => rw [q] at e; cases e
    | some gs =>
      rw [q] at e
      have e : lstep gs l = some hs := e
      have ig := ih h' gs q
      rw [lstep_eq (lflat_flat ls h' gs q).red] at e
      rw [List.length_append, List.length_singleton]
      split at e
      · split at e
        · cases e
        · rw [← Option.some.inj e]
          omega
      · rw [← Option.some.inj e]
        unfold lput
        rw [List.length_append, List.length_map, List.length_singleton]
        omega
def sp_law_drawn_flatL (K : PySem.W.Frag) : Sp := fun vs H Q _ => ∃ (b c : Addr) (n k : Nat), vs = [.ref b, .int (n : Int), .int (k : Int)] ∧ BagAt K H b c ∧ n ≤ 62 ∧ k ≤ 100 ∧
  ∀ H' v hs, But b H H' → BagAt K H' b c → FlatV K H' v hs → FlatOk hs → (∀ e ∈ hs, e.2.1 < 2 ^ n) → hs.length ≤ k → Q v H'
def sp_law_three_flats (K : PySem.W.Frag) : Sp := fun vs H Q _ => ∃ (b c : Addr) (n : Nat), vs = [.ref b, .int (n : Int)] ∧ BagAt K H b c ∧ 1 ≤ n ∧ n ≤ 62 ∧
  ∀ H' p v u x hs gs ks, But b H H' → BagAt K H' b c → SqT K H' p [v, u, x] → FlatV K H' v hs → FlatOk hs → (∀ e ∈ hs, e.2.1 < 2 ^ n) → FlatV K H' u gs → FlatOk gs → (∀ e ∈ gs, e.2.1 < 2 ^ n) → FlatV K H' x ks → FlatOk ks → (∀ e ∈ ks, e.2.1 < 2 ^ n) → Q (.ref p) H'
end Es
set_option Elab.async false
set_option linter.all false
set_option maxRecDepth 100000
set_option maxHeartbeats 4000000
namespace Es
open PySem PySem.Spec PyProof.Rows L2
inductive Tree where
  | leaf (i : Nat)
  | ask (m : Nat) (l r : Tree)
def Tree.ht : Tree → Nat
  | .leaf _ => 0
  | .ask _ l r => 1 + max l.ht r.ht
def Tree.sz : Tree → Nat
  | .leaf _ => 1
  | .ask _ l r => l.sz + r.sz
def Tree.ok : Tree → Prop
  | .leaf i => i < 2 ^ 30
  | .ask _ l r => l.ok ∧ r.ok
def Tree.lvs : Tree → List (Nat × Nat) → List (Nat × List (Nat × Nat))
  | .leaf i, ls => [(i, ls)]
  | .ask m l r, ls => l.lvs (ls ++ [(m, 0)]) ++ r.lvs (ls ++ [(m, 1)])
theorem Tree.sz_pos : ∀ t : Tree, 0 < t.sz
  | .leaf _ => Nat.one_pos
  | .ask _ l r => Nat.add_pos_left l.sz_pos _
theorem Tree.lvs_len : ∀ (t : Tree) (ls : List (Nat × Nat)), (t.lvs ls).length = t.sz
  | .leaf _, _ => rfl
  | .ask m l r, ls => by
    rw [Tree.lvs, List.length_append, l.lvs_len, r.lvs_len]
    rfl
theorem Tree.lvs_le : ∀ (t : Tree) (ls : List (Nat × Nat)), ∀ e ∈ t.lvs ls, e.2.length ≤ ls.length + t.ht
  | .leaf _, ls => fun e he => by
    rw [Tree.lvs, List.mem_singleton] at he
    rw [he]
    exact Nat.le_add_right _ _
  | .ask m l r, ls => fun e he => by
    rw [Tree.lvs, List.mem_append] at he
    rw [Tree.ht]
    rcases he with he | he
    · have := l.lvs_le _ e he
      rw [List.length_append, List.length_singleton] at this
      omega
    · have := r.lvs_le _ e he
      rw [List.length_append, List.length_singleton] at this
      omega
theorem Tree.lvs_ht : ∀ (t : Tree) (ls : List (Nat × Nat)), ∃ e ∈ t.lvs ls, e.2.length = ls.length + t.ht
  | .leaf i, ls => ⟨(i, ls), by rw [Tree.lvs]; exact List.mem_singleton.mpr rfl, rfl⟩
  | .ask m l r, ls => by
    rw [Tree.ht, Tree.lvs]
    by_cases h : r.ht ≤ l.ht
    · obtain ⟨e, he, q⟩ := l.lvs_ht (ls ++ [(m, 0)])
      refine ⟨e, List.mem_append_left _ he, ?_⟩
      rw [q, List.length_append, List.length_singleton, Nat.max_eq_left h]
      omega
    · obtain ⟨e, he, q⟩ := r.lvs_ht (ls ++ [(m, 1)])
      refine ⟨e, List.mem_append_right _ he, ?_⟩
      rw [q, List.length_append, List.length_singleton, Nat.max_eq_right (by omega)]
      omega
theorem Tree.lvs_bits : ∀ (t : Tree) (ls : List (Nat × Nat)), t.ok → (∀ l ∈ ls, l.2 < 2) → ∀ e ∈ t.lvs ls, e.1 < 2 ^ 30 ∧ ∀ l ∈ e.2, l.2 < 2
  | .leaf i, ls, o, h => fun e he => by
    rw [Tree.lvs, List.mem_singleton] at he
    rw [he]
    exact ⟨o, h⟩
  | .ask m l r, ls, o, h => fun e he => by
    rw [Tree.lvs, List.mem_append] at he
    have more : ∀ b : Nat, b < 2 → ∀ x ∈ ls ++ [(m, b)], x.2 < 2 := fun b hb x hx => by
      rcases List.mem_append.mp hx with hx | hx
      · exact h x hx
      · rw [List.mem_singleton.mp hx]
        exact hb
    rcases he with he | he
    · exact l.lvs_bits _ o.1 (more 0 (by decide)) e he
    · exact r.lvs_bits _ o.2 (more 1 (by decide)) e he
def endV : V := .str (Str.ofString "end")
def askV : V := .str (Str.ofString "ask")
def TreeV (K : PySem.W.Frag) (H : Hp) : V → Tree → Prop
  | v, .leaf i => ∃ a, v = .ref a ∧ SqT K H a [endV, .int (i : Int)]
  | v, .ask m l r => ∃ a w v0 v1, v = .ref a ∧ SqT K H a [askV, w, v0, v1] ∧ SumV K H w m ∧ TreeV K H v0 l ∧ TreeV K H v1 r
theorem TreeV.same {K : PySem.W.Frag} {H H' : Hp} (s : Same H H') : ∀ {v : V} {t : Tree}, TreeV K H v t → TreeV K H' v t
  | v, .leaf i, ⟨a, e, h⟩ => ⟨a, e, sqT_same s h⟩
  | v, .ask m l r, ⟨a, w, v0, v1, e, h, hw, h0, h1⟩ => ⟨a, w, v0, v1, e, sqT_same s h, hw.same s, TreeV.same s h0, TreeV.same s h1⟩
theorem TreeV.but {K : PySem.W.Frag} {H H' : Hp} {b : Addr} {ys : List V} (hb : H b = some (.lst ys)) (s : But b H H') : ∀ {v : V} {t : Tree}, TreeV K H v t → TreeV K H' v t
  | v, .leaf i, ⟨a, e, h⟩ => ⟨a, e, sqT_but hb s h⟩
  | v, .ask m l r, ⟨a, w, v0, v1, e, h, hw, h0, h1⟩ => ⟨a, w, v0, v1, e, sqT_but hb s h, hw.but hb s, TreeV.but hb s h0, TreeV.but hb s h1⟩
theorem TreeV.bag {K : PySem.W.Frag} {H H' : Hp} {b c : Addr} {v : V} {t : Tree} (B : BagAt K H b c) (s : But b H H') (h : TreeV K H v t) : TreeV K H' v t := by
  obtain ⟨y, e⟩ := B.lst
  exact TreeV.but e s h
def treeD : Tree → PyData
  | .leaf i => .tuple [.str (Str.ofString "end"), .int (i : Int)]
  | .ask m l r => .tuple [.str (Str.ofString "ask"), sumD m, treeD l, treeD r]
theorem dp_tree {K : PySem.W.Frag} {H : Hp} : ∀ {v : V} {t : Tree}, TreeV K H v t → Dp K H v (treeD t)
  | v, .leaf i, ⟨a, e, h⟩ => by
    subst e
    exact .tup h (.cons (.str _) (.cons (.int _) .nil))
  | v, .ask m l r, ⟨a, w, v0, v1, e, h, hw, h0, h1⟩ => by
    subst e
    exact .tup h (.cons (.str _) (.cons (dp_sum hw) (.cons (dp_tree h0) (.cons (dp_tree h1) .nil))))
theorem nice_end : nice (.str (Str.ofString "end")) = true := by decide +kernel
theorem nice_ask : nice (.str (Str.ofString "ask")) = true := by decide +kernel
theorem nice_nat {i : Nat} (h : i < 2 ^ 30) : nice (.int (i : Int)) = true := by
  refine decide_eq_true ?_
  show i < 10 ^ 12
  exact Nat.lt_trans h (by decide)
theorem treeD_nice : ∀ {t : Tree}, t.ok → nice (treeD t) = true
  | .leaf i, o => niceAll_iff.mpr fun x hx => by
    rcases List.mem_cons.mp hx with rfl | hx
    · exact nice_end
    · rw [List.mem_singleton.mp hx]
      exact nice_nat o
  | .ask m l r, o => niceAll_iff.mpr fun x hx => by
    rcases List.mem_cons.mp hx with rfl | hx
    · exact nice_ask
    · rcases List.mem_cons.mp hx with rfl | hx
      · exact nice_sumD m
      · rcases List.mem_cons.mp hx with rfl | hx
        · exact treeD_nice o.1
        · rw [List.mem_singleton.mp hx]
          exact treeD_nice o.2
theorem treeD_depth : ∀ t : Tree, (treeD t).depth ≤ t.ht + 2
  | .leaf i => by
    show max 0 (max 0 0) + 1 ≤ 0 + 2
    decide
  | .ask m l r => by
    show max 0 (max (sumD m).depth (max (treeD l).depth (max (treeD r).depth 0))) + 1 ≤ (1 + max l.ht r.ht) + 2
    rw [depth_sumD]
    have a := treeD_depth l
    have b := treeD_depth r
    omega
theorem treeD_weight : ∀ t : Tree, t.ok → (treeD t).weight + 500 ≤ 1000 * t.sz
  | .leaf i, o => by
    have w : PyData.weight (.int (i : Int)) ≤ 30 := weight_int (show i < 2 ^ 30 from o)
    have e : PyData.weight (.str (Str.ofString "end")) ≤ 10 := by decide +kernel
    show PyData.weight (.str (Str.ofString "end")) + 1 + (PyData.weight (.int (i : Int)) + 1 + 0) + 500 ≤ 1000 * 1
    omega
  | .ask m l r, o => by
    have w := weight_sumD m
    have a := treeD_weight l o.1
    have b := treeD_weight r o.2
    have e : PyData.weight (.str (Str.ofString "ask")) ≤ 10 := by decide +kernel
    show PyData.weight (.str (Str.ofString "ask")) + 1 + ((sumD m).weight + 1 + ((treeD l).weight + 1 + ((treeD r).weight + 1 + 0))) + 500 ≤ 1000 * (l.sz + r.sz)
    omega
def EntV (K : PySem.W.Frag) (H : Hp) (v : V) (e : Nat × List (Nat × Nat)) : Prop := ∃ a b us, v = .ref a ∧ SqT K H a [.int (e.1 : Int), .ref b] ∧ SqT K H b us ∧ Paired (LineV K H) us e.2
theorem EntV.same {K : PySem.W.Frag} {H H' : Hp} {v : V} {e : Nat × List (Nat × Nat)} (s : Same H H') (h : EntV K H v e) : EntV K H' v e := by
  obtain ⟨a, b, us, q, h1, h2, h3⟩ := h
  exact ⟨a, b, us, q, sqT_same s h1, sqT_same s h2, lines_same s h3⟩
theorem EntV.but {K : PySem.W.Frag} {H H' : Hp} {c : Addr} {ys : List V} {v : V} {e : Nat × List (Nat × Nat)} (hb : H c = some (.lst ys)) (s : But c H H') (h : EntV K H v e) : EntV K H' v e := by
  obtain ⟨a, b, us, q, h1, h2, h3⟩ := h
  exact ⟨a, b, us, q, sqT_but hb s h1, sqT_but hb s h2, lines_but hb s h3⟩
def entD (e : Nat × List (Nat × Nat)) : PyData := .tuple [.int (e.1 : Int), .tuple (e.2.map lineD)]
theorem dp_ent {K : PySem.W.Frag} {H : Hp} {v : V} {e : Nat × List (Nat × Nat)} (h : EntV K H v e) : Dp K H v (entD e) := by
  obtain ⟨a, b, us, rfl, h1, h2, h3⟩ := h
  exact .tup h1 (.cons (.int _) (.cons (.tup h2 (dp_lines h3)) .nil))
theorem dp_ents {K : PySem.W.Frag} {H : Hp} : ∀ {us : List V} {es : List (Nat × List (Nat × Nat))}, Paired (EntV K H) us es → DpAll K H us (es.map entD)
  | _, _, .nil => .nil
  | _, _, .cons h t => .cons (dp_ent h) (dp_ents t)
def toldT (t : Tree) : PyData := .list [.list ((t.lvs []).map entD), .int (t.ht : Int)]
theorem entD_facts {e : Nat × List (Nat × Nat)} (h1 : e.1 < 2 ^ 30) (h2 : ∀ l ∈ e.2, l.2 < 2) (h3 : e.2.length ≤ 25) : nice (entD e) = true ∧ (entD e).depth ≤ 4 ∧ (entD e).weight ≤ 12000 := by
  refine ⟨niceAll_iff.mpr fun x hx => ?_, ?_, ?_⟩
  · rcases List.mem_cons.mp hx with rfl | hx
    · exact nice_nat h1
    · rw [List.mem_singleton.mp hx]
      refine niceAll_iff.mpr fun y hy => ?_
      obtain ⟨l, hl, rfl⟩ := List.mem_map.mp hy
      exact nice_line (h2 l hl)
  · have := depth_lines e.2
    show max 0 (max (PyData.depthAll (e.2.map lineD) + 1) 0) + 1 ≤ 4
    omega
  · have w := weight_int (i := (e.1 : Int)) (k := 30) (show e.1 < 2 ^ 30 from h1)
    have w2 := weight_lines h2
    show PyData.weight (.int (e.1 : Int)) + 1 + (PyData.weightAll (e.2.map lineD) + 1 + 0) ≤ 12000
    omega
theorem ents_weight : ∀ {es : List (Nat × List (Nat × Nat))}, (∀ e ∈ es, (entD e).weight ≤ 12000) → PyData.weightAll (es.map entD) ≤ 12001 * es.length
  | [], _ => Nat.zero_le _
  | e :: es, h => by
    have a := h e List.mem_cons_self
    have b := ents_weight fun x hx => h x (List.mem_cons_of_mem _ hx)
    show (entD e).weight + 1 + PyData.weightAll (es.map entD) ≤ _
    rw [List.length_cons]
    omega
theorem ents_depth : ∀ {es : List (Nat × List (Nat × Nat))}, (∀ e ∈ es, (entD e).depth ≤ 4) → PyData.depthAll (es.map entD) ≤ 4
  | [], _ => Nat.zero_le _
  | e :: es, h => Nat.max_le.mpr ⟨h e List.mem_cons_self, ents_depth fun x hx => h x (List.mem_cons_of_mem _ hx)⟩
theorem toldT_facts {t : Tree} (o : t.ok) (h : t.ht ≤ 25) (s : t.sz ≤ 64) : nice (toldT t) = true ∧ (toldT t).depth ≤ 40 ∧ (toldT t).weight ≤ 2 ^ 20 := by
  have all : ∀ e ∈ t.lvs [], nice (entD e) = true ∧ (entD e).depth ≤ 4 ∧ (entD e).weight ≤ 12000 := fun e he => by
    obtain ⟨b1, b2⟩ := t.lvs_bits [] o (fun l hl => by cases hl) e he
    have b3 := t.lvs_le [] e he
    rw [List.length_nil, Nat.zero_add] at b3
    exact entD_facts b1 b2 (by omega)
  refine ⟨niceAll_iff.mpr fun x hx => ?_, ?_, ?_⟩
  · rcases List.mem_cons.mp hx with rfl | hx
    · refine niceAll_iff.mpr fun y hy => ?_
      obtain ⟨e, he, rfl⟩ := List.mem_map.mp hy
      exact (all e he).1
    · rw [List.mem_singleton.mp hx]
      exact nice_nat (by omega)
  · have := ents_depth fun e he => (all e he).2.1
    show max (PyData.depthAll ((t.lvs []).map entD) + 1) (max 0 0) + 1 ≤ 40
    omega
  · have w := ents_weight fun e he => (all e he).2.2
    rw [t.lvs_len] at w
    have w2 := weight_int (i := (t.ht : Int)) (k := 6) (show t.ht < 2 ^ 6 by omega)
    show PyData.weightAll ((t.lvs []).map entD) + 1 + (PyData.weight (.int (t.ht : Int)) + 1 + 0) ≤ 2 ^ 20
    omega
def sp_height_of (K : PySem.W.Frag) : Sp := fun vs H Q _ => ∃ (v : V) (t : Tree), vs = [v] ∧ TreeV K H v t ∧ t.ht ≤ 25 ∧ t.sz ≤ 64 ∧ ∀ H', Same H H' → Q (.int (t.ht : Int)) H'
def sp_leaves_of (K : PySem.W.Frag) : Sp := fun vs H Q _ => ∃ (v : V) (t : Tree), vs = [v] ∧ TreeV K H v t ∧ t.ht ≤ 25 ∧ t.sz ≤ 64 ∧
  ∀ H' a us, Same H H' → H a = none → H' a = some (.lst us) → Paired (EntV K H') us (t.lvs []) → Q (.ref a) H'
def sp_law_mixed (K : PySem.W.Frag) : Sp := fun vs H Q _ => ∃ (b c a : Addr) (xs : List V), vs = [.ref b, .ref a] ∧ BagAt K H b c ∧ a ≠ b ∧ Sq K H a xs ∧ xs.length ≤ 1000 ∧
  ∀ H' p ys, But b H H' → BagAt K H' b c → H p = none → p ≠ b → H' p = some (.lst ys) → ys.Perm xs → Q (.ref p) H'
def sp_law_any_tree (K : PySem.W.Frag) (d : Nat) : Sp := fun vs H Q _ => ∃ (b c : Addr) (n k e : Nat), vs = [.ref b, .int (n : Int), .int (k : Int), .int (e : Int)] ∧ BagAt K H b c ∧ 0 < n ∧ n ≤ 62 ∧ 0 < k ∧ k < 2 ^ 30 ∧ e < d ∧
  ∀ H' v t, But b H H' → BagAt K H' b c → TreeV K H' v t → t.ok → t.ht ≤ e → t.sz ≤ 2 ^ e → Q v H'
def sp_law_any_treeD (K : PySem.W.Frag) : Sp := sp_law_any_tree K 8
def sp_law_tree_leaves (K : PySem.W.Frag) (d : Nat) : Sp := fun vs H Q _ => ∃ (v : V) (b : Addr) (us : List V) (t : Tree) (ls : List (Nat × Nat)), vs = [v, .ref b] ∧ TreeV K H v t ∧ SqT K H b us ∧ Paired (LineV K H) us ls ∧ t.ht < d ∧ ls.length + t.ht ≤ 40 ∧ t.sz ≤ 64 ∧
  ∀ H' a es, Same H H' → H a = none → H' a = some (.lst es) → Paired (EntV K H') es (t.lvs ls) → Q (.ref a) H'
def sp_law_tree_leavesD (K : PySem.W.Frag) : Sp := sp_law_tree_leaves K 26
def sp_law_tree_height (K : PySem.W.Frag) (d : Nat) : Sp := fun vs H Q _ => ∃ (v : V) (t : Tree), vs = [v] ∧ TreeV K H v t ∧ t.ht < d ∧ t.ht ≤ 40 ∧ ∀ H', Same H H' → Q (.int (t.ht : Int)) H'
def sp_law_tree_heightD (K : PySem.W.Frag) : Sp := sp_law_tree_height K 26
def sp_law_lopsided (K : PySem.W.Frag) : Sp := fun vs H Q _ => ∃ (b c : Addr) (n k e : Nat), vs = [.ref b, .int (n : Int), .int (k : Int), .int (e : Int)] ∧ BagAt K H b c ∧ 0 < n ∧ n ≤ 62 ∧ 0 < k ∧ k < 2 ^ 30 ∧ e ≤ 20 ∧
  ∀ H' v t, But b H H' → BagAt K H' b c → TreeV K H' v t → t.ok → t.ht ≤ e + 1 → t.sz ≤ 2 * e + 1 → Q v H'
theorem no_law_any_tree {K : PySem.W.Frag} {vs : List V} {H : Hp} {Q : VK} {E : XK} (h : sp_law_any_tree K 0 vs H Q E) : False := by
  obtain ⟨_, _, _, _, _, _, _, _, _, _, _, h, _⟩ := h
  exact Nat.not_lt_zero _ h
theorem no_law_tree_leaves {K : PySem.W.Frag} {vs : List V} {H : Hp} {Q : VK} {E : XK} (h : sp_law_tree_leaves K 0 vs H Q E) : False := by
  obtain ⟨_, _, _, _, _, _, _, _, _, h, _⟩ := h
  exact Nat.not_lt_zero _ h
theorem no_law_tree_height {K : PySem.W.Frag} {vs : List V} {H : Hp} {Q : VK} {E : XK} (h : sp_law_tree_height K 0 vs H Q E) : False := by
  obtain ⟨_, _, _, _, h, _⟩ := h
  exact Nat.not_lt_zero _ h
theorem cat_line {K : PySem.W.Frag} {H : Hp} {b p : Addr} {us : List V} {x : V} {Q : VK} (hb : SqT K H b us) (hl : us.length ≤ 100) (hp : H p = some (.tup [x])) (q : ∀ H' p', Same H H' → SqT K H' p' (us ++ [x]) → Q (.ref p') H') : rCatA K (.ref b) (.ref p) H Q := by
  refine ⟨b, p, us, [x], rfl, rfl, hb, .inl (.inl hp), Nat.le_trans (Nat.add_le_add hl (show [x].length ≤ 1 from Nat.le_refl _)) (by decide), fun e => ?_, (fun (_ : us ≠ []) (e : [x] = []) => nomatch e), fun _ _ r nr => q _ r (same_new nr) (.inl (.inl upd_same))⟩
  subst e
  exact q H p (Same.refl _) (.inl (.inl hp))
theorem ent_append {α β : Type} {R : α → β → Prop} : ∀ {xs : List α} {ys : List β} {zs : List α} {ws : List β}, PySem.Paired R xs ys → PySem.Paired R zs ws → PySem.Paired R (xs ++ zs) (ys ++ ws)
  | _, _, _, _, .nil, k => k
  | _, _, _, _, .cons h t, k => .cons h (ent_append t k)
def Tree.nd : Tree → Nat
  | .leaf _ => 1
  | .ask _ l r => 1 + (l.nd + r.nd)
abbrev Stk := List (Tree × List (Nat × Nat))
def fl (stk : Stk) : List (Nat × List (Nat × Nat)) := stk.reverse.flatMap fun p => p.1.lvs p.2
theorem fl_snoc (stk : Stk) (p : Tree × List (Nat × Nat)) : fl (stk ++ [p]) = p.1.lvs p.2 ++ fl stk := by
  unfold fl
  rw [List.reverse_append]
  rfl
def ndS (stk : Stk) : Nat := (stk.map fun p => p.1.nd).sum
theorem ndS_snoc (stk : Stk) (p : Tree × List (Nat × Nat)) : ndS (stk ++ [p]) = ndS stk + p.1.nd := by
  unfold ndS
  rw [List.map_append, List.sum_append]
  simp
theorem fl_len (stk : Stk) : stk.length ≤ (fl stk).length := by
  unfold fl
  rw [← List.length_reverse (as := stk)]
  generalize stk.reverse = s
  induction s with
  | nil => exact Nat.le_refl _
  | cons p s ih =>
    rw [List.flatMap_cons, List.length_append, List.length_cons, Tree.lvs_len]
    have := p.1.sz_pos
    omega
def StkV (K : PySem.W.Frag) (H : Hp) (v : V) (p : Tree × List (Nat × Nat)) : Prop := ∃ a w b us, v = .ref a ∧ SqT K H a [w, .ref b] ∧ TreeV K H w p.1 ∧ SqT K H b us ∧ Paired (LineV K H) us p.2
theorem StkV.same {K : PySem.W.Frag} {H H' : Hp} {v : V} {p : Tree × List (Nat × Nat)} (s : Same H H') (h : StkV K H v p) : StkV K H' v p := by
  obtain ⟨a, w, b, us, e, h1, h2, h3, h4⟩ := h
  exact ⟨a, w, b, us, e, sqT_same s h1, h2.same s, sqT_same s h3, lines_same s h4⟩
theorem StkV.but {K : PySem.W.Frag} {H H' : Hp} {c : Addr} {ys : List V} {v : V} {p : Tree × List (Nat × Nat)} (hb : H c = some (.lst ys)) (s : But c H H') (h : StkV K H v p) : StkV K H' v p := by
  obtain ⟨a, w, b, us, e, h1, h2, h3, h4⟩ := h
  exact ⟨a, w, b, us, e, sqT_but hb s h1, h2.but hb s, sqT_but hb s h3, lines_but hb s h4⟩
theorem paired_snoc_inv {α β : Type} {R : α → β → Prop} {xs : List α} {ys : List β} {y : β} (h : PySem.Paired R xs (ys ++ [y])) : ∃ zs z, xs = zs ++ [z] ∧ PySem.Paired R zs ys ∧ R z y := by
  induction ys generalizing xs with
  | nil =>
    cases h with
    | cons r t =>
      cases t
      exact ⟨[], _, rfl, .nil, r⟩
  | cons w ys ih =>
    cases h with
    | cons r t =>
      obtain ⟨zs, z, rfl, p, q⟩ := ih t
      exact ⟨_ :: zs, z, rfl, .cons r p, q⟩
theorem perm_two {α : Type} {xs : List α} {a b : α} (p : xs.Perm [a, b]) : xs = [a, b] ∨ xs = [b, a] := by
  have l := p.length_eq
  match xs, l with
  | [x, y], _ =>
    have m := p.mem_iff.mp (List.mem_cons_self (a := x) (l := [y]))
    rcases List.mem_cons.mp m with rfl | m
    · have q := List.perm_singleton.mp (List.Perm.cons_inv p)
      rw [q]
      exact .inl rfl
    · have m := List.mem_singleton.mp m
      subst m
      have q := List.perm_singleton.mp (List.Perm.cons_inv (p.trans (List.Perm.swap x a [])))
      rw [q]
      exact .inr rfl
end Es
set_option Elab.async false
set_option linter.all false
set_option maxRecDepth 100000
set_option maxHeartbeats 4000000
namespace Es
open PySem PySem.Spec PyProof.Rows L2
section
variable {P : Program} {w : World} {κ : Type} [DecidableEq κ] {G : HeapKind P w κ} {A : Around} {E : Value → Shared → Prop} {s : Shared}
variable {S : Addr} {L : List (Addr × κ)} {es : Array (Int × Value)} {n : Nat} {t : SetTable}
theorem set_of_list (M : Mute G) {l : Addr} {its : Array Value} (ks : List (Addr × κ)) {Q : Value → Shared → Prop} (hh : A.handled = none) (ht : s.heap.IsList l its) (hit : its.toList = ks.map fun e => Value.ref e.1) (hk : ∀ e ∈ ks, G.is s.heap e.2 e.1)
    (few : ks.length < 64) (hu : G.room A.in1.in1.in1)
    (hQ : ∀ (h' : Heap) (tk : Nat) L es n t, Stand G h' s.heap.objs.size L es n t → Fed ks ks.length L → (∀ b o, s.heap.get? b = some o → h'.get? b = some o) → Q (.ref s.heap.objs.size) { s with heap := h', toks := tk }) :
    wpAny (model P w) A (call (.type "set") [.ref l]) Q E s := by
  have cnt : its.size = ks.length := by
    rw [← Array.length_toList, hit, List.length_map]
  have pick : ∀ (i : Nat) (v : Value), its[i]? = some v → ∃ e, ks[i]? = some e ∧ v = .ref e.1 := fun i v hi => by
    rw [← Array.getElem?_toList, hit, List.getElem?_map] at hi
    obtain ⟨e, he, ev⟩ := Option.map_eq_some_iff.mp hi
    exact ⟨e, he, ev.symm⟩
  obtain ⟨c, tl, hmro⟩ := PySem.F.called_set.mro
  have made := PySem.F.called_set.made
  have subT := PySem.F.called_set.sub
  refine wpAny_call (codeAny_of_tree ?_)
  show wpAny _ _ (callAny (.type "set") _) _ _ _
  refine wpAny_pure ⟨Code.quiet_builtin _ (by decide +kernel), codeAny_builtin PySem.F.entry_type_call ?_⟩
  rw [Around.under_plain (weight_type_call_type "set" [.ref l] []) rfl]
  have noT := PySem.F.called_set.notType
  have can := PySem.F.called_set.canCreate
  have tc := PySem.F.typeCall_set_1 (.ref l)
  repeat (any_goals (first | assumption | wp_step))
  refine codeAny_mono (code_set_led1 (.ref l) (E := E) (Q₁ := fun v u => v = .ref s.heap.objs.size ∧ u = { s with heap := s.heap.push (Bare w) }) ⟨rfl, rfl⟩) fun r u hr => ?_
  rcases r with er | fl
  · exact hr
  cases fl with
  | ret v =>
    obtain ⟨e1, e2⟩ := hr
    subst e1 e2
    have got : (s.heap.push (Bare w)).get? s.heap.objs.size = some (Bare w) := Heap.get?_push_size _ rfl
    have ty : Shared.TypeIs { s with heap := s.heap.push (Bare w) } (.ref s.heap.objs.size) "set" := ⟨_, got, rfl⟩
    have look := PySem.F.called_set.init.lookup
    have bnd := PySem.F.called_set.init.bind (.ref s.heap.objs.size)
    repeat (any_goals (first | assumption | wp_step))
    refine codeAny_mono (codeAny_call_builtin (R := wants (fun r u => r = .none ∧ ∃ h' tk L es n t, u = { s with heap := h', toks := tk } ∧ (Stand G h' s.heap.objs.size L es n t ∧ Fed ks ks.length L) ∧ ∀ b o, s.heap.get? b = some o → h'.get? b = some o) E)
      PySem.F.called_set.init.plain PySem.F.entry_set_init (check_set_init_1 ty ?_)) fun r u hr => ?_
    · obtain ⟨o, ho, hc, nl, hd⟩ := ht
      have lt := Heap.lt_size ho
      obtain ⟨ocls, odict, odata, oslots⟩ := o
      dsimp only at hc hd
      subst hc hd
      have inT : (s.heap.push (Bare w)).IsList l its := ⟨_, Heap.get?_push_of_some _ ho, rfl, nl, rfl⟩
      have ho2 : (s.heap.push (Bare w)).get? l = some { cls := .type "list", dict := odict, data := .seq its nl, slots := oslots } := Heap.get?_push_of_some _ ho
      have sub1 := PySem.F.sub_list_set
      have sub2 := PySem.F.sub_list_frozenset
      have noD : (Value.type "list" == Value.type "dict") = false := by decide
      unfold Builtin.«set.__init__» noKeywords Builtin.Frozenset.updateFrom
      generalize walkIt : pyIter = PI
      wp_walk
      subst walkIt
      refine wpAny_pyIter_list inT ?_
      refine wpAny_bind (wpAny_runValue ?_)
      have hh3 : A.in1.in1.in1.handled = none := by simp [hh]
      have sz : (s.heap.push (Bare w)).objs.size = s.heap.objs.size + 1 := Heap.size_push ..
      have apart : l ≠ (s.heap.push (Bare w)).objs.size := by rw [sz]; exact Nat.ne_of_lt (Nat.lt_succ_of_lt lt)
      have out : s.heap.objs.size ∉ [(s.heap.push (Bare w)).objs.size, l] := by
        rw [sz]
        intro z
        rcases List.mem_cons.mp z with z | z
        · exact Nat.ne_of_lt (Nat.lt_succ_self _) z
        · exact Nat.ne_of_gt lt (List.mem_singleton.mp z)
      refine feed (G := G) M (Walks.list hh3 _ l apart its).toS s.heap.objs.size out ks cnt few pick s.heap hk (none_from _ (Nat.le_refl _)) (fun b hb => none_from b (by rw [List.mem_singleton.mp hb, sz]; exact Nat.le_succ _)) hu ?fin its.size 0 _ (Nat.zero_add _)
        ⟨⟨_, Heap.get?_push_size _ rfl, rfl, rfl⟩, inT.push _⟩ (Moved.refl (Walks.list (prog := P) (w := w) hh3 _ l apart its).toS.grefl) (fun b o e => Heap.get?_push_of_some _ (Heap.get?_push_of_some _ e)) ⟨[], #[], 0, _, bare_stand (Heap.get?_push_of_some _ got), Fed.none ks⟩
      case fin =>
        intro u L es n t mv hR g kp
        obtain ⟨h', g2, d2, tk, os2⟩ := u
        have e1 : g2 = s.gens := mv.gens
        have e2 : d2 = s.drawn := mv.drawn
        have e3 : os2 = s.os := mv.os
        subst e1 e2 e3
        rw [cnt] at g
        show wpAny _ _ _ _ _ _
        refine wpAny_pure ?_
        show wpAny _ _ (ret Value.none) _ _ _
        exact wpAny_pure ⟨rfl, h', tk, L, es, n, t, rfl, ⟨hR, g⟩, kp⟩
    · rcases r with er | fl
      · exact hr
      cases fl with
      | ret v =>
        obtain ⟨e1, h', tk, L, es, n, t, e2, ⟨hR, g⟩, kp⟩ := hr
        subst e1 e2
        repeat (any_goals (first | assumption | wp_step))
        exact hQ _ _ _ _ _ _ hR g kp
      | _ => exact hr.elim
  | _ => exact hr.elim
end
def rKeySetL (K : PySem.W.Frag) (P : Program) (w : World) : List V → Hp → VK → Prop := fun xs H Q => rKeySet K P w xs H Q ∨ ∃ (a : Addr) (ks : List (Addr × NestedKey)), xs = [.ref a] ∧ SqL K H a (ks.map fun e => V.ref e.1) ∧ (∀ e ∈ ks, KeyV K H e) ∧ ks.length < 64 ∧
  ∀ S L, H S = none → (∀ e ∈ L, e ∈ ks) → (∀ e ∈ ks, e.2 ∈ L.map (·.2)) → (L.map (·.2)).Nodup → Q (.ref S) (upd H S (KeySetO P w S L))
theorem cr_keySetL {X : Cx} (hc : X.calm = true) (hu : X.A.units + 64 < cLine) : CallR X (.type "set") (rKeySetL X.K X.prog X.w) := by
  intro pins s σ H xs us Q I r h
  rcases h with h | h
  · exact cr_keySet hc hu pins s σ H xs us Q I r h
  obtain ⟨a, ks, rfl, ht, hk, few, q⟩ := h
  rw [Vals.ref1 r]
  obtain ⟨its, rv, pl, _⟩ := I.list ht
  have new : H s.heap.objs.size = none := I.hok.fresh (Nat.le_refl _)
  refine set_of_list (G := numKind X.prog X.w) num_mute ks (I.ok.hd hc) pl.isList (by simpa using vals_keys rv) (fun e he => (KeyV.is I (hk e he)).1) few (show _ + 8 < _ by simp only [Around.in1_units]; omega) fun h' tk L es n t R g kp => ?_
  refine ⟨.ref s.heap.objs.size, _, I.laid (t' := tk) kp (Nat.le_refl _) (keySet_new R.light), rfl, q _ L new (fun e he => List.mem_of_mem_take (g.from_ e he)) (fun e he => g.have_ e ?_) R.once⟩
  rw [List.take_length]
  exact he
end Es
set_option Elab.async false
set_option linter.all false
set_option maxRecDepth 100000
set_option maxHeartbeats 4000000
namespace Es
open PySem PySem.Spec PyProof.Rows L2
theorem mul_none (l : Addr) (its : Array Value) (n : Nat) (dd : Option Addr) (sl : Array (Option Value)) (u : Tok) (ne : its.isEmpty = false) :
    Meets (Builtin.«tuple.__mul__» ⟨[.ref l, .int 0 u], []⟩) (fun _ R s => s.heap.get? l = some { cls := .type "tuple", dict := dd, data := .seq its n, slots := sl } ∧
      R (.ok (.ret (Value.ref s.heap.objs.size))) { s with heap := s.heap.push { cls := Value.type "tuple", data := Data.seq #[] }, toks := s.toks }) :=
  .of_wp fun p1 w1 A1 R1 s h => by
    obtain ⟨hz, g2, d2, t2, o2⟩ := s
    obtain ⟨at_, h⟩ := h
    have f1 := AutoSeq1.idx_int
    have c1 : (its.isEmpty || (0 : Int) == 1) = false := by rw [ne]; rfl
    wp_walk using wpAny_loadPart' at_
    repeat (first
      | (refine wpAny_ite_false (by decide) ?_; wp_walk using wpAny_loadPart' at_)
      | (refine wpAny_ite_false (decide_eq_false (by rw [c1]; exact Bool.false_ne_true)) ?_; wp_walk using wpAny_loadPart' at_)
      | (refine wpAny_ite_true (by decide) ?_; wp_walk using wpAny_loadPart' at_))
    exact ⟨_, rfl, h⟩
theorem mul_once (l : Addr) (its : Array Value) (n : Nat) (dd : Option Addr) (sl : Array (Option Value)) (u : Tok) :
    Meets (Builtin.«tuple.__mul__» ⟨[.ref l, .int 1 u], []⟩) (fun _ R s => s.heap.get? l = some { cls := .type "tuple", dict := dd, data := .seq its n, slots := sl } ∧ R (.ok (.ret (Value.ref l))) s) :=
  .of_wp fun p1 w1 A1 R1 s h => by
    obtain ⟨hz, g2, d2, t2, o2⟩ := s
    obtain ⟨at_, h⟩ := h
    have f1 := AutoSeq1.idx_int
    have c1 : (its.isEmpty || (1 : Int) == 1) = true := by cases its.isEmpty <;> rfl
    wp_walk using wpAny_loadPart' at_
    repeat (first
      | (refine wpAny_ite_false (by decide) ?_; wp_walk using wpAny_loadPart' at_)
      | (refine wpAny_ite_true (by rw [c1]) ?_; wp_walk using wpAny_loadPart' at_)
      | (refine wpAny_ite_true (by decide) ?_; wp_walk using wpAny_loadPart' at_))
    exact ⟨_, rfl, h⟩
def rRepA (K : PySem.W.Frag) : R2 := fun x y H Q => rRepT K x y H Q ∨ (∃ l xs, x = .ref l ∧ y = .int 0 ∧ SqT K H l xs ∧ xs ≠ [] ∧ ∀ p, H p = none → Q (.ref p) (upd H p (.tup []))) ∨ (∃ l xs, x = .ref l ∧ y = .int 1 ∧ SqT K H l xs ∧ Q (.ref l) H)
theorem op_repA {X : Cx} : OpR X (binaryOp .Mult) (rRepA X.K) := by
  intro pins s σ H x y v u Q I rx ry h
  rcases h with h | ⟨l, xs, rfl, rfl, hT, hne, q⟩ | ⟨l, xs, rfl, rfl, hT, q⟩
  · exact op_repT pins s σ H x y v u Q I rx ry h
  · cases rx
    obtain ⟨t, rfl⟩ := ry
    obtain ⟨its, r, ⟨⟨kc, dd, kd, sl⟩, ho, ec, n, ed⟩, _⟩ := I.tuple hT
    simp only at ec ed
    subst ec ed
    have hi : its.toArray.isEmpty = false := by
      cases its with
      | nil =>
        have := r.length
        exact absurd (List.eq_nil_of_length_eq_zero this) hne
      | cons a b => rfl
    refine wpAny_binaryOp_repeat_ref (T := "tuple") (U := "int") (by decide) ⟨_, ho, rfl⟩ (fun s' => typeIs_int s' 0 t) noFill_tuple_mul F.fills_int_mul F.slot_int_rmul repeat_tuple F.slot_int_index.lookup
      (call_meets F.slot_int_rmul (typeIs_int s 0 t) F.entry_int_rmul (F.args_int_rmul_2 _ _) (int_rmul_tuple 0 t l its.toArray n dd sl)
        ⟨ho, rfl, ⟨_, ho, rfl⟩, call_meets F.slot_tuple_mul ⟨_, ho, rfl⟩ F.entry_tuple_mul (F.args_tuple_mul_2 _ _) (mul_none l its.toArray n dd sl t hi) ⟨ho, ?_⟩⟩)
    refine ⟨.ref s.heap.objs.size, _, I.laid (t' := s.toks) (o := .tup []) (fun b ob q => Heap.get?_push_of_some _ q) (Nat.le_refl _) ?_, rfl, q _ (I.hok.fresh (Nat.le_refl _))⟩
    exact ⟨Nat.zero_le _, _, .nil, IsTup.new _ _⟩
  · cases rx
    obtain ⟨t, rfl⟩ := ry
    obtain ⟨its, r, ⟨⟨kc, dd, kd, sl⟩, ho, ec, n, ed⟩, _⟩ := I.tuple hT
    simp only at ec ed
    subst ec ed
    refine wpAny_binaryOp_repeat_ref (T := "tuple") (U := "int") (by decide) ⟨_, ho, rfl⟩ (fun s' => typeIs_int s' 1 t) noFill_tuple_mul F.fills_int_mul F.slot_int_rmul repeat_tuple F.slot_int_index.lookup
      (call_meets F.slot_int_rmul (typeIs_int s 1 t) F.entry_int_rmul (F.args_int_rmul_2 _ _) (int_rmul_tuple 1 t l its.toArray n dd sl)
        ⟨ho, rfl, ⟨_, ho, rfl⟩, call_meets F.slot_tuple_mul ⟨_, ho, rfl⟩ F.entry_tuple_mul (F.args_tuple_mul_2 _ _) (mul_once l its.toArray n dd sl t) ⟨ho, ?_⟩⟩)
    exact ⟨.ref l, H, I, rfl, q⟩
end Es
set_option Elab.async false
set_option linter.all false
set_option maxRecDepth 100000
set_option maxHeartbeats 4000000
namespace Es
open PySem PySem.Spec PyProof.Rows L2
section
variable {X : Cx}
def gCutIn (tx : TE) (ta tc : TO) : TG := fun v σ H Q => tx σ H fun x H1 => ta σ H1 fun l H2 => tc σ H2 fun u H3 => ∃ (p b : Addr) (xs ys : List V) (i j : Nat), x = .ref p ∧ v = .ref b ∧ l = some (i : Int) ∧ u = some (j : Int) ∧ H3 p = some (.lst xs) ∧ H3 b = some (.lst ys) ∧ p ≠ b ∧
  i ≤ j ∧ j ≤ xs.length ∧ xs.length + ys.length ≤ sizeLine ∧ Q σ (upd H3 p (.lst (xs.take i ++ ys ++ xs.drop j)))
theorem part_rel {v : Value} {i : Int} (h : IsPart v (some i)) : RelV (.int i) v := by
  cases h with
  | int i t => exact ⟨t, rfl⟩
theorem pg_cutIn {e : Expr} {lo hi : Option Expr} {tx : TE} {ta tc : TO} {pos p2 : Pos} (hx : PE X e tx) (hl : PO X lo ta) (hu : PO X hi tc)
    (eq : ∀ v, assign (.Subscript e (.Slice lo hi none p2) pos) X.env v = (do
      let a ← holding [v] (eval e X.env)
      let b ← holding [v, a] (eval (.Slice lo hi none p2) X.env)
      standAt pos
      holding [v, a, b] (setItem a b v)
      release [b, v, a] []) := by intro _; rfl) : PG X (.Subscript e (.Slice lo hi none p2) pos) (gCutIn tx ta tc) := by
  refine ⟨fun pins s σ H v w Q I r h => ?_⟩
  rw [eq]
  refine wpAny_bind (wpAny_holding (thn (hx.run pins s σ H _ I h) fun a s1 ⟨x, H1, I1, r1, q1⟩ => ?_))
  refine wpAny_bind (wpAny_holding (wpAny_Slice (thn (hl.run pins s1 σ H1 _ I1 q1) fun vl s2 ⟨l, H2, I2, pl, q2⟩ => thn (hu.run pins s2 σ H2 _ I2 q2) fun vu s3 ⟨u, H3, I3, pu, q3⟩ => ?_)))
  rw [evalPart_none]
  refine wpAny_pure ?_
  obtain ⟨p, b, xs, ys, i, j, rfl, rfl, rfl, rfl, hp, hb, ne, ij, jx, hz, q⟩ := q3
  cases r1
  cases r
  have I4 : Inv X pins σ H3 { s3 with heap := s3.heap.push { cls := .type "slice", data := .fields #[vl, vu, .none] } } := I3.kept (t' := s3.toks) fun b ob z => Heap.get?_push_of_some _ z
  refine wpAny_bind (wpAny_standAt (wpAny_bind (wpAny_holding ?_)))
  refine set_slice I4 hp hb ne (Heap.IsSliceOf.new ..) (part_rel pl) (part_rel pu) (by omega) (by omega) (by omega) hz fun s5 I5 => ?_
  refine wpAny_release ⟨σ, _, I5, ?_⟩
  rw [Int.toNat_natCast, Int.toNat_natCast]
  exact q
end
end Es
set_option Elab.async false
set_option linter.all false
set_option maxRecDepth 100000
set_option maxHeartbeats 4000000
namespace Es
open PySem PySem.Spec PyProof.Rows L2
def LinesV (K : PySem.W.Frag) (H : Hp) (v : V) (ls : List (Nat × Nat)) : Prop := ∃ t us, v = .ref t ∧ SqT K H t us ∧ Paired (LineV K H) us ls
theorem LinesV.same {K : PySem.W.Frag} {H H' : Hp} {v : V} {ls : List (Nat × Nat)} (s : Same H H') (h : LinesV K H v ls) : LinesV K H' v ls := by
  obtain ⟨t, us, rfl, h1, h2⟩ := h
  exact ⟨t, us, rfl, sqT_same s h1, lines_same s h2⟩
theorem LinesV.but {K : PySem.W.Frag} {H H' : Hp} {v : V} {ls : List (Nat × Nat)} {b : Addr} {ys : List V} (hb : H b = some (.lst ys)) (s : But b H H') (h : LinesV K H v ls) : LinesV K H' v ls := by
  obtain ⟨t, us, rfl, h1, h2⟩ := h
  exact ⟨t, us, rfl, sqT_but hb s h1, lines_but hb s h2⟩
theorem LinesV.bag {K : PySem.W.Frag} {H H' : Hp} {v : V} {ls : List (Nat × Nat)} {b c : Addr} (B : BagAt K H b c) (s : But b H H') (h : LinesV K H v ls) : LinesV K H' v ls := by
  obtain ⟨ys, eb⟩ := B.lst
  exact h.but eb s
def flipL (l : Nat × Nat) : Nat × Nat := (l.1, 1 - l.2)
theorem flip_flip {l : Nat × Nat} (h : l.2 < 2) : flipL (flipL l) = l := by
  unfold flipL
  obtain ⟨a, b⟩ := l
  have h : b < 2 := h
  show (a, 1 - (1 - b)) = (a, b)
  rw [show 1 - (1 - b) = b by omega]
theorem flip_lt {n : Nat} {ls : List (Nat × Nat)} (h : ∀ l ∈ ls, l.1 < 2 ^ n ∧ l.2 < 2) : ∀ l ∈ ls.map flipL, l.1 < 2 ^ n ∧ l.2 < 2 := fun l hl => by
  obtain ⟨k, hk, rfl⟩ := List.mem_map.mp hl
  exact ⟨(h k hk).1, by show 1 - k.2 < 2; omega⟩
def sp_turned (K : PySem.W.Frag) : Sp := fun vs H Q _ => ∃ (v : V) (ls : List (Nat × Nat)), vs = [v] ∧ LinesV K H v ls ∧ (∀ l ∈ ls, l.2 < 2) ∧ ls.length ≤ 1000 ∧
  ∀ H' u, Same H H' → LinesV K H' u (ls.map flipL) → Q u H'
def sp_clause_for (K : PySem.W.Frag) : Sp := sp_turned K
def sp_miss_of (K : PySem.W.Frag) : Sp := fun vs H Q _ => ∃ (v : V) (ls : List (Nat × Nat)), vs = [v] ∧ LinesV K H v ls ∧ (∀ l ∈ ls, l.1 < 2 ^ 63 ∧ l.2 < 2) ∧ ls.length ≤ 1000 ∧
  ∀ H' u, Same H H' → OptFlat K H' u (lflat (ls.map flipL)) → Q u H'
def sp_law_miss (K : PySem.W.Frag) : Sp := sp_miss_of K
def sp_law_kept (K : PySem.W.Frag) : Sp := fun vs H Q _ => ∃ (v u : V) (n : Nat) (ls : List (Nat × Nat)), vs = [v, u] ∧ RoomV K H v n ∧ n ≤ 7 ∧ LinesV K H u ls ∧ (∀ l ∈ ls, l.1 < 2 ^ n ∧ l.2 < 2) ∧
  ∀ x, BitsOf (2 ^ n) x (fun s => ls.any fun l => holdsB l (fS n s)) → Q (.int (x : Int)) H
def sp_law_any_clause (K : PySem.W.Frag) : Sp := fun vs H Q _ => ∃ (b c : Addr) (n k : Nat), vs = [.ref b, .int (n : Int), .int (k : Int)] ∧ BagAt K H b c ∧ 0 < n ∧ n ≤ 62 ∧ k ≤ 60 ∧
  ∀ H' v ls, But b H H' → BagAt K H' b c → LinesV K H' v ls → (∀ l ∈ ls, l.1 < 2 ^ n ∧ l.1 ≠ 0 ∧ l.2 < 2) → ls.length ≤ k → Q v H'
theorem nodup_len {α : Type} [DecidableEq α] : ∀ {l m : List α}, l.Nodup → (∀ x ∈ l, x ∈ m) → l.length ≤ m.length
  | [], _, _, _ => Nat.zero_le _
  | a :: l, m, nd, h => by
    have nd := List.nodup_cons.mp nd
    have am := h a List.mem_cons_self
    have i := nodup_len (l := l) (m := m.erase a) nd.2 fun x hx => (List.mem_erase_of_ne (by intro e; subst e; exact nd.1 hx)).mpr (h x (List.mem_cons_of_mem _ hx))
    rw [List.length_erase_of_mem am] at i
    have := List.length_pos_of_mem am
    rw [List.length_cons]
    omega
theorem refs_lines {K : PySem.W.Frag} {H : Hp} : ∀ {ds : List (Addr × (Nat × Nat))}, (∀ d ∈ ds, LineV K H (.ref d.1) d.2) → Paired (LineV K H) (ds.map fun d => V.ref d.1) (ds.map (·.2))
  | [], _ => .nil
  | d :: ds, h => .cons (h d List.mem_cons_self) (refs_lines fun x hx => h x (List.mem_cons_of_mem _ hx))
theorem byData_back {cs : List (Addr × (Nat × Nat))} {L L' : List (Addr × NestedKey)} (h1 : ∀ e ∈ L, e ∈ cs.map keyed) (nd : (L.map (·.2)).Nodup) (pm : L'.Perm L) :
    ∃ ds : List (Addr × (Nat × Nat)), byData L' = ds.map keyed ∧ (∀ d ∈ ds, d ∈ cs) ∧ ds.length ≤ cs.length := by
  have pb : (byData L').Perm L' := by
    unfold byData
    exact List.mergeSort_perm _ _
  obtain ⟨ds, e, hd⟩ := keyed_back (cs := cs) (byData L') fun e he => h1 e ((pb.trans pm).mem_iff.mp he)
  refine ⟨ds, e, hd, ?_⟩
  have l1 : ds.length = L.length := by
    have := (pb.trans pm).length_eq
    rwa [e, List.length_map] at this
  have l2 := nodup_len (l := L.map (·.2)) (m := (cs.map keyed).map (·.2)) nd fun x hx => by
    obtain ⟨y, hy, rfl⟩ := List.mem_map.mp hx
    exact List.mem_map.mpr ⟨y, h1 y hy, rfl⟩
  rw [List.length_map, List.length_map, List.length_map] at l2
  omega
def BookV (K : PySem.W.Frag) (H : Hp) (v : V) (n : Nat) (cs : List (List (Nat × Nat))) : Prop := ∃ t c us, v = .ref t ∧ SqT K H t [.int (n : Int), .ref c] ∧ SqT K H c us ∧ Paired (LinesV K H) us cs
theorem BookV.same {K : PySem.W.Frag} {H H' : Hp} {v : V} {n : Nat} {cs : List (List (Nat × Nat))} (s : Same H H') (h : BookV K H v n cs) : BookV K H' v n cs := by
  obtain ⟨t, c, us, rfl, h1, h2, h3⟩ := h
  exact ⟨t, c, us, rfl, sqT_same s h1, sqT_same s h2, Paired.mono2 (fun _ _ => LinesV.same s) h3⟩
theorem BookV.but {K : PySem.W.Frag} {H H' : Hp} {v : V} {n : Nat} {cs : List (List (Nat × Nat))} {b : Addr} {ys : List V} (hb : H b = some (.lst ys)) (s : But b H H') (h : BookV K H v n cs) : BookV K H' v n cs := by
  obtain ⟨t, c, us, rfl, h1, h2, h3⟩ := h
  exact ⟨t, c, us, rfl, sqT_but hb s h1, sqT_but hb s h2, Paired.mono2 (fun _ _ => LinesV.but hb s) h3⟩
def ClOk (n : Nat) (ls : List (Nat × Nat)) : Prop := (∀ l ∈ ls, l.1 < 2 ^ n ∧ l.1 ≠ 0 ∧ l.2 < 2) ∧ ls.length ≤ 60
def BkOk (n : Nat) (cs : List (List (Nat × Nat))) : Prop := (∀ ls ∈ cs, ClOk n ls) ∧ cs.length ≤ 60
def sp_law_any_book (K : PySem.W.Frag) : Sp := fun vs H Q _ => ∃ (b c : Addr) (n k : Nat), vs = [.ref b, .int (n : Int), .int (k : Int)] ∧ BagAt K H b c ∧ n ≤ 62 ∧ k ≤ 60 ∧
  ∀ H' v cs, But b H H' → BagAt K H' b c → BookV K H' v n cs → BkOk n cs → Q v H'
def sp_law_chain_book (K : PySem.W.Frag) : Sp := fun vs H Q _ => ∃ (b c : Addr) (n : Nat), vs = [.ref b, .int (n : Int)] ∧ BagAt K H b c ∧ 0 < n ∧ n ≤ 50 ∧
  ∀ H' v cs, But b H H' → BagAt K H' b c → BookV K H' v n cs → BkOk n cs → Q v H'
def sp_law_planted_book (K : PySem.W.Frag) : Sp := fun vs H Q _ => ∃ (b c : Addr) (n k : Nat), vs = [.ref b, .int (n : Int), .int (k : Int)] ∧ BagAt K H b c ∧ n ≤ 62 ∧ k ≤ 60 ∧
  ∀ H' p v u cs, But b H H' → BagAt K H' b c → H' p = some (.tup [v, u]) → BookV K H' v n cs → BkOk n cs → Q (.ref p) H'
theorem rep_one {K : PySem.W.Frag} {H : Hp} {l : Addr} {x : V} {r : Nat} {Q : VK} (h : SqT K H l [x]) (hr : r ≤ 2) (k : ∀ H' p, Same H H' → SqT K H' p (List.replicate r x) → Q (.ref p) H') : rRepA K (.ref l) (.int (r : Int)) H Q := by
  have : r = 0 ∨ r = 1 ∨ r = 2 := by omega
  rcases this with rfl | rfl | rfl
  · exact .inr (.inl ⟨l, [x], rfl, rfl, h, by simp, fun p hp => k _ p (same_new hp) (.inl (.inl upd_same))⟩)
  · exact .inr (.inr ⟨l, [x], rfl, rfl, h, k _ l (Same.refl _) h⟩)
  · exact .inl ⟨l, 2, [x], rfl, rfl, h, by simp, by decide, by decide, (by show 1 ≤ 1000; decide), fun p hp => k _ p (same_new hp) (.inl (.inl upd_same))⟩
theorem paired_rep {α β : Type} {R : α → β → Prop} {x : α} {y : β} (h : R x y) : ∀ r, PySem.Paired R (List.replicate r x) (List.replicate r y)
  | 0 => .nil
  | r + 1 => .cons h (paired_rep h r)
def sp_law_worthS (K : PySem.W.Frag) : Sp := fun vs H Q _ => ∃ (v : V) (b : Addr) (m : Nat) (bs : List Nat), vs = [v, .ref b] ∧ SumV K H v m ∧ Sq K H b (iv bs) ∧ (∀ u ∈ bts m, u < bs.length) ∧
  ∀ H', Same H H' → Q (.int ((wsum m bs % 2 : Nat) : Int)) H'
theorem worthS_mono {K : PySem.W.Frag} {vs : List V} {H : Hp} {Q : VK} {E : XK} (h : sp_law_worthL K vs H Q E) : sp_law_worthS K vs H Q E := by
  obtain ⟨v, b, m, bs, e, h1, h2, r⟩ := h
  exact ⟨v, b, m, bs, e, h1, .inl h2, r⟩
theorem paired_perm {α β : Type} {R : α → β → Prop} {xs ys : List α} (p : ys.Perm xs) : ∀ {cs : List β}, PySem.Paired R xs cs → ∃ ds, PySem.Paired R ys ds ∧ ds.Perm cs := by
  induction p with
  | nil => exact fun h => ⟨_, h, .refl _⟩
  | cons x _ ih =>
    intro cs h
    cases h with
    | cons r t =>
      obtain ⟨ds, h1, h2⟩ := ih t
      exact ⟨_, .cons r h1, h2.cons _⟩
  | swap x y l =>
    intro cs h
    cases h with
    | cons r t =>
      cases t with
      | cons r2 t2 => exact ⟨_, .cons r2 (.cons r t2), .swap _ _ _⟩
  | trans _ _ ih1 ih2 =>
    intro cs h
    obtain ⟨ds, h1, h2⟩ := ih2 h
    obtain ⟨es, h3, h4⟩ := ih1 h1
    exact ⟨es, h3, h4.trans h2⟩
def MissV (K : PySem.W.Frag) (H : Hp) (v : V) (ls : List (Nat × Nat)) : Prop := OptFlat K H v (lflat (ls.map flipL))
def sp_misses_of (K : PySem.W.Frag) : Sp := fun vs H Q _ => ∃ (v : V) (n : Nat) (cs : List (List (Nat × Nat))), vs = [v] ∧ BookV K H v n cs ∧ ((∀ ls ∈ cs, (∀ l ∈ ls, l.1 < 2 ^ n ∧ l.2 < 2) ∧ ls.length ≤ 60) ∧ cs.length ≤ 240) ∧ n ≤ 62 ∧
  ∀ H' a us, Same H H' → H a = none → H' a = some (.lst us) → Paired (MissV K H') us cs → Q (.ref a) H'
def folB (ls ks : List (Nat × Nat)) : Bool := match lflat (ls.map flipL), lflat (ks.map flipL) with
  | none, _ => true
  | some _, none => false
  | some hs, some gs => liesB hs (canon gs)
def Lines63 (ls : List (Nat × Nat)) : Prop := (∀ l ∈ ls, l.1 < 2 ^ 63 ∧ l.2 < 2) ∧ ls.length ≤ 1000
def sp_follows_from (K : PySem.W.Frag) : Sp := fun vs H Q _ => ∃ (v u : V) (ls ks : List (Nat × Nat)), vs = [v, u] ∧ LinesV K H v ls ∧ Lines63 ls ∧ LinesV K H u ks ∧ Lines63 ks ∧ ∀ H', Same H H' → Q (.bl (folB ls ks)) H'
def samB (ls ks : List (Nat × Nat)) : Bool := PyData.eqv (optFD (lflat (ls.map flipL))) (optFD (lflat (ks.map flipL)))
def sp_says_same (K : PySem.W.Frag) : Sp := fun vs H Q _ => ∃ (v u : V) (ls ks : List (Nat × Nat)), vs = [v, u] ∧ LinesV K H v ls ∧ Lines63 ls ∧ LinesV K H u ks ∧ Lines63 ks ∧ ∀ H', Same H H' → Q (.bl (samB ls ks)) H'
theorem optFlat_list {K : PySem.W.Frag} {H H' : Hp} {D : Addr} {ys : List V} {v : V} {o : Option (List (Nat × Nat × Nat))} (e : H D = some (.lst ys)) (s : But D H H') (h : OptFlat K H v o) : OptFlat K H' v o := optFlat_but e s h
def FlatsOk (n : Nat) (v : V) (hs : List (Nat × Nat × Nat)) (K : PySem.W.Frag) (H : Hp) : Prop := FlatV K H v hs ∧ FlatOk hs ∧ ∀ e ∈ hs, e.2.1 < 2 ^ n
def sp_law_cut_up (K : PySem.W.Frag) : Sp := fun vs H Q _ => ∃ (b c : Addr) (n k : Nat), vs = [.ref b, .int (n : Int), .int (k : Int)] ∧ BagAt K H b c ∧ 0 < n ∧ n ≤ 62 ∧ 0 < k ∧ k ≤ 60 ∧
  ∀ H' a us fs, But b H H' → BagAt K H' b c → H a = none → a ≠ b → H' a = some (.lst us) → Paired (FlatV K H') us fs → (∀ hs ∈ fs, (FlatOk hs ∧ ∀ e ∈ hs, e.2.1 < 2 ^ n) ∧ hs.length ≤ 6) → us.length ≤ k → 0 < us.length → Q (.ref a) H'
theorem paired_drop2 {α β : Type} {R : α → β → Prop} : ∀ {xs : List α} {ys : List β} (n : Nat), PySem.Paired R xs ys → PySem.Paired R (xs.drop n) (ys.drop n)
  | _, _, 0, h => h
  | _, _, _ + 1, .nil => .nil
  | _, _, n + 1, .cons _ t => paired_drop2 n t
theorem canon_none : canon [] = [] := by decide +kernel
theorem FlatV.but {K : PySem.W.Frag} {H H' : Hp} {b : Addr} {ys : List V} {v : V} {hs : List (Nat × Nat × Nat)} (hb : H b = some (.lst ys)) (s : But b H H') (h : FlatV K H v hs) : FlatV K H' v hs := by
  obtain ⟨t, us, rfl, h1, h2⟩ := h
  exact ⟨t, us, rfl, sqT_but hb s h1, lines_but hb s h2⟩
def sp_law_spoken (K : PySem.W.Frag) : Sp := fun vs H Q _ => ∃ (b c : Addr) (v : V) (n : Nat) (ls : List (Nat × Nat)), vs = [.ref b, v] ∧ BagAt K H b c ∧ LinesV K H v ls ∧ (∀ l ∈ ls, l.1 < 2 ^ n ∧ l.2 < 2) ∧ ls.length ≤ 12 ∧ n ≤ 62 ∧
  ∀ H' u ks, But b H H' → BagAt K H' b c → LinesV K H' u ks → (∀ l ∈ ks, l.1 < 2 ^ n ∧ l.2 < 2) → ks.length ≤ 13 → Q u H'
def ClOkW (n : Nat) (ls : List (Nat × Nat)) : Prop := (∀ l ∈ ls, l.1 < 2 ^ n ∧ l.2 < 2) ∧ ls.length ≤ 60
def BkOkW (n : Nat) (cs : List (List (Nat × Nat))) : Prop := (∀ ls ∈ cs, ClOkW n ls) ∧ cs.length ≤ 120
def sp_law_cover_book (K : PySem.W.Frag) : Sp := fun vs H Q _ => ∃ (b c : Addr) (n k : Nat), vs = [.ref b, .int (n : Int), .int (k : Int)] ∧ BagAt K H b c ∧ 0 < n ∧ n ≤ 62 ∧ 0 < k ∧ k ≤ 50 ∧
  ∀ H' v cs, But b H H' → BagAt K H' b c → BookV K H' v n cs → BkOkW n cs → 0 < cs.length → Q v H'
theorem sub_len {hs gs : List (Nat × Nat × Nat)} (FG : FlatOk gs) (h : ∀ e ∈ gs, e ∈ hs) : gs.length ≤ hs.length := nodup_len (nodup_of_map FG.red.nd) h
theorem cut_two (x y : V) (r : List V) : cutV (x :: y :: r) none (some 2) = [x, y] := by
  unfold cutV
  have h0 : HT.sIx (x :: y :: r).length 0 none = 0 := rfl
  have h2 : HT.sIx (x :: y :: r).length (x :: y :: r).length (some 2) = 2 := by
    unfold HT.sIx
    simp
  rw [h0, h2]
  rfl
theorem rg_mem {n : Nat} {v : V} (h : v ∈ rgV 0 (n : Int)) : ∃ i, i < n ∧ v = .int ((i : Nat) : Int) := by
  unfold rgV at h
  obtain ⟨i, hi, rfl⟩ := List.mem_map.mp h
  rw [List.mem_range] at hi
  refine ⟨i, by omega, ?_⟩
  congr 1
  omega
theorem paired_set {α β : Type} {R : α → β → Prop} {x : α} {y : β} (h : R x y) : ∀ {xs : List α} {ys : List β} (i : Nat), PySem.Paired R xs ys → PySem.Paired R (xs.set i x) (ys.set i y)
  | _, _, _, .nil => .nil
  | _, _, 0, .cons _ t => .cons h t
  | _, _, i + 1, .cons r t => .cons r (paired_set h i t)
theorem PairI.but {K : PySem.W.Frag} {H H' : Hp} {b : Addr} {ys : List V} (hb : H b = some (.lst ys)) (s : But b H H') {v : V} {p : Nat × Nat} (h : PairI K H v p) : PairI K H' v p := by
  obtain ⟨t, e, h⟩ := h
  exact ⟨t, e, sqT_but hb s h⟩
theorem ixN_nat {n j : Nat} (h : j < n) : ixN n (j : Int) = some j := by
  unfold ixN
  rw [if_pos (by omega), if_pos (by omega)]
  rfl
theorem BkOk.wide {n : Nat} {cs : List (List (Nat × Nat))} (h : BkOk n cs) : BkOkW n cs :=
  ⟨fun ls hl => ⟨fun l hm => ⟨((h.1 ls hl).1 l hm).1, ((h.1 ls hl).1 l hm).2.2⟩, (h.1 ls hl).2⟩, by have := h.2; omega⟩
def sp_law_beside_book (K : PySem.W.Frag) : Sp := fun vs H Q _ => ∃ (b c : Addr) (v u : V) (n m : Nat) (cs ds : List (List (Nat × Nat))), vs = [.ref b, v, u] ∧ BagAt K H b c ∧ BookV K H v n cs ∧ BkOkW n cs ∧ BookV K H u m ds ∧ BkOkW m ds ∧ n + m ≤ 60 ∧
  ∀ H' w es, But b H H' → BagAt K H' b c → BookV K H' w (n + m) es → (∀ ls ∈ es, ClOkW (n + m) ls) → es.length ≤ 240 → Q w H'
def sp_law_book (K : PySem.W.Frag) : Sp := fun vs H Q _ => ∃ (b c : Addr) (n k : Nat), vs = [.ref b, .int (n : Int), .int (k : Int)] ∧ BagAt K H b c ∧ 0 < n ∧ n ≤ 48 ∧ 0 < k ∧ k ≤ 48 ∧
  ∀ H' v m cs, But b H H' → BagAt K H' b c → m ≤ n → BookV K H' v m cs → (∀ ls ∈ cs, ClOkW m ls) → cs.length ≤ 240 → Q v H'
theorem sIx_nat {n d j : Nat} (h : j ≤ n) : HT.sIx n d (some (j : Int)) = j := by
  show (if (j : Int) < 0 then ((j : Int) + (n : Int)).toNat else min (j : Int).toNat n) = j
  rw [if_neg (by omega)]
  omega
theorem cut_to {us : List V} {j : Nat} (h : j < us.length) : cutV us none (some (j : Int)) = us.take j ∧ ¬ (HT.sIx us.length 0 none = 0 ∧ HT.sIx us.length us.length (some (j : Int)) = us.length) := by
  unfold cutV
  rw [sIx_nat (Nat.le_of_lt h)]
  have h0 : HT.sIx us.length 0 none = 0 := rfl
  rw [h0]
  exact ⟨rfl, fun z => by omega⟩
theorem cut_from {us : List V} {j : Nat} (h : j < us.length) : cutV us (some ((j + 1 : Nat) : Int)) none = us.drop (j + 1) ∧ ¬ (HT.sIx us.length 0 (some ((j + 1 : Nat) : Int)) = 0 ∧ HT.sIx us.length us.length none = us.length) := by
  unfold cutV
  rw [sIx_nat (show j + 1 ≤ us.length from h)]
  have h0 : HT.sIx us.length us.length none = us.length := rfl
  rw [h0]
  refine ⟨?_, fun z => by omega⟩
  rw [List.take_of_length_le (by rw [List.length_drop]; exact Nat.le_refl _)]
def sp_law_is_miss_right (K : PySem.W.Frag) : Sp := fun vs H Q _ => ∃ (v u : V) (n : Nat) (ls : List (Nat × Nat)), vs = [v, u] ∧ RoomV K H v n ∧ n ≤ 7 ∧ LinesV K H u ls ∧ (∀ l ∈ ls, l.1 < 2 ^ n ∧ l.2 < 2) ∧ ls.length ≤ 60 ∧
  ∀ H', Same H H' → Q (.bl true) H'
def flipE (e : Nat × Nat × Nat) : Nat × Nat × Nat := (e.1, flipL e.2)
theorem flip_flat {hs : List (Nat × Nat × Nat)} (F : FlatOk hs) : FlatOk (hs.map flipE) ∧ canon (hs.map flipE) = (canon hs).map flipL := by
  have heads : (hs.map flipE).map (·.1) = hs.map (·.1) := by
    rw [List.map_map]
    rfl
  have F' : FlatOk (hs.map flipE) := by
    refine ⟨⟨by rw [heads]; exact F.red.nd, fun e he => ?_, fun e he h hh ne => ?_⟩, fun e he => ?_, fun e he => ?_⟩
    · obtain ⟨g, hg, rfl⟩ := List.mem_map.mp he
      exact F.red.own g hg
    · obtain ⟨g, hg, rfl⟩ := List.mem_map.mp he
      rw [heads] at hh
      exact F.red.oth g hg h hh ne
    · obtain ⟨g, hg, rfl⟩ := List.mem_map.mp he
      exact F.least g hg
    · obtain ⟨g, hg, rfl⟩ := List.mem_map.mp he
      show 1 - g.2.2 < 2
      omega
  refine ⟨F', ?_⟩
  unfold canon byHead
  rw [heads, List.map_map, List.map_map, List.map_map]
  refine List.map_congr_left fun h hh => ?_
  obtain ⟨e, he, rfl⟩ := List.mem_map.mp (mem_srt.mp hh).2
  show (look (hs.map flipE) e.1).getD (0, 0) = flipL ((look hs e.1).getD (0, 0))
  have h1 := look_of F'.red.nd (List.mem_map.mpr ⟨e, he, rfl⟩)
  have h1 : look (hs.map flipE) e.1 = some (flipL e.2) := h1
  rw [h1, look_of F.red.nd he]
  rfl
theorem all_flip {ls : List (Nat × Nat)} (hl : ∀ l ∈ ls, l.2 < 2) (f : Nat → Bool) : ((ls.map flipL).all fun l => holdsB l f) = !(ls.any fun l => holdsB l f) := by
  rw [Bool.eq_iff_iff, List.all_eq_true, Bool.not_eq_true', ← Bool.not_eq_true, List.any_eq_true]
  constructor
  · rintro h ⟨l, hm, hh⟩
    have := holdsB_iff.mp (h (flipL l) (List.mem_map.mpr ⟨l, hm, rfl⟩))
    exact (holds_flip (hl l hm)).mp this (holdsB_iff.mp hh)
  · intro h l hm
    obtain ⟨k, hk, rfl⟩ := List.mem_map.mp hm
    exact holdsB_iff.mpr ((holds_flip (hl k hk)).mpr fun z => h ⟨k, hk, holdsB_iff.mpr z⟩)
theorem map_flip {ls : List (Nat × Nat)} (hl : ∀ l ∈ ls, l.2 < 2) : (ls.map flipL).map flipL = ls := by
  rw [List.map_map]
  conv => rhs; rw [← List.map_id ls]
  exact List.map_congr_left fun l h => flip_flip (hl l h)
theorem canon_flat {hs : List (Nat × Nat × Nat)} (F : FlatOk hs) : ∃ gs, lflat (canon hs) = some gs ∧ canon gs = canon hs := by
  have hl := canon_lt F
  obtain ⟨a1, a2⟩ := lflat_sol _ hl
  have on : ∀ f, sol hs f ↔ ∀ l ∈ canon hs, holdsL l f := fun f => by
    rw [← all_canon F f, List.all_eq_true]
    exact ⟨fun h l hl => holdsB_iff.mp (h l hl), fun h l hl => holdsB_iff.mpr (h l hl)⟩
  cases q : lflat (canon hs) with
  | none =>
    obtain ⟨f, s⟩ := flat_has F
    exact absurd ((on f).mp s) (a2 q f)
  | some gs => exact ⟨gs, rfl, canon_uniq (lflat_flat _ hl gs q) F fun f => (a1 gs q f).trans (on f).symm⟩
theorem twoFD_facts {hs gs : List (Nat × Nat × Nat)} (F : FlatOk hs) (FG : FlatOk gs) : nice (.list [flatD hs, flatD gs]) = true ∧ (PyData.list [flatD hs, flatD gs]).depth ≤ 40 ∧ (PyData.list [flatD hs, flatD gs]).weight ≤ 2 ^ 20 := by
  obtain ⟨a1, a2, a3⟩ := flatD_facts F
  obtain ⟨b1, b2, b3⟩ := flatD_facts FG
  refine ⟨?_, ?_, ?_⟩
  · refine niceAll_iff.mpr fun x hx => ?_
    rcases List.mem_cons.mp hx with rfl | hx
    · exact a1
    · rcases List.mem_cons.mp hx with rfl | hx
      · exact b1
      · cases hx
  · show max _ (max _ 0) + 1 ≤ 40
    have := Nat.max_le.mpr ⟨a2, Nat.max_le.mpr ⟨b2, Nat.zero_le 3⟩⟩
    omega
  · show (flatD hs).weight + 1 + ((flatD gs).weight + 1 + 0) ≤ 2 ^ 20
    omega
end Es
set_option Elab.async false
set_option linter.all false
set_option maxRecDepth 100000
set_option maxHeartbeats 4000000
namespace Es
open PySem PySem.Spec PyProof.Rows L2
theorem sorted_iv {l : List Nat} {ys : List Int} (nd : l.Nodup) (h63 : ∀ u ∈ l, u < 63) (hp : ys.Perm (l.map Int.ofNat)) (hs : ys.Pairwise (· ≤ ·)) : ys.map V.int = iv (bts (msk l)) := by
  have d : DictM (l.map (fun (u : Nat) => ((Sum.inl (u : Int) : Key), V.bl true))) (msk l) := ⟨l, rfl, nd, fun u => by
    rw [msk_bit nd]
    constructor
    · intro h
      exact ⟨h63 u h, decide_eq_true h⟩
    · intro h
      exact of_decide_eq_true h.2⟩
  obtain ⟨ks, e, _, f⟩ := dictM_keys d
  have e2 : ks = l.map Int.ofNat := by
    rw [List.map_map] at e
    have inj : ∀ (a : List Nat) (b : List Int), a.map (fun (u : Nat) => (Sum.inl (u : Int) : Key)) = b.map Sum.inl → b = a.map Int.ofNat := by
      intro a
      induction a with
      | nil =>
        intro b h
        cases b with
        | nil => rfl
        | cons y b => cases h
      | cons x a ih =>
        intro b h
        cases b with
        | nil => cases h
        | cons y b =>
          rw [List.map_cons, List.map_cons] at h
          injection h with h1 h2
          injection h1 with h1
          rw [List.map_cons, ih b h2, ← h1]
          rfl
    exact inj l ks e
  exact f ys (by rw [e2]; exact hp) hs
theorem msk_lt {l : List Nat} (nd : l.Nodup) {n : Nat} (h : ∀ u ∈ l, u < n) : msk l < 2 ^ n := by
  refine Nat.lt_pow_two_of_testBit _ fun i hi => ?_
  rw [msk_bit nd]
  exact decide_eq_false fun z => by
    have := h i z
    omega
theorem rg_iv (n : Nat) : rgV 0 (n : Int) = iv (List.range n) := by
  unfold rgV iv
  have e : ((n : Int) - 0).toNat = n := by omega
  rw [e]
  refine List.map_congr_left fun i _ => ?_
  show V.int (0 + (i : Int)) = V.int (i : Int)
  rw [Int.zero_add]
theorem order_of {ys : List V} {n : Nat} (p : ys.Perm (rgV 0 (n : Int))) : ∃ os : List Nat, ys = iv os ∧ os.Perm (List.range n) := by
  rw [rg_iv] at p
  obtain ⟨os, p1, e⟩ := perm_back (f := fun (u : Nat) => V.int (u : Int)) p (L := List.range n) rfl
  exact ⟨os, e, p1⟩
def rTupK (K : PySem.W.Frag) : List V → Hp → VK → Prop := fun xs H Q => ∃ p ys, xs = [.ref p] ∧ ((SqL K H p ys ∧ ∀ l, H l = none → Q (.ref l) (upd H l (.tup ys))) ∨ (SqT K H p ys ∧ Q (.ref p) H))
def sentL (os : List Nat) (f m : Nat) : List Nat := (bts m).map fun u => os.getD (f + u) 0
theorem nodup_getD {os : List Nat} (nd : os.Nodup) {i j : Nat} (hi : i < os.length) (hj : j < os.length) (ne : i ≠ j) : os.getD i 0 ≠ os.getD j 0 := by
  have pw := List.pairwise_iff_getElem.mp nd
  rw [List.getD_eq_getElem?_getD, List.getD_eq_getElem?_getD, List.getElem?_eq_getElem hi, List.getElem?_eq_getElem hj]
  show os[i] ≠ os[j]
  rcases Nat.lt_or_gt_of_ne ne with h | h
  · exact pw i j hi hj h
  · exact fun z => pw j i hj hi h z.symm
theorem sentL_facts {os : List Nat} {N f k m : Nat} (p : os.Perm (List.range N)) (hk : f + k ≤ N) (hm : m < 2 ^ k) : (sentL os f m).Nodup ∧ (∀ u ∈ sentL os f m, u < N) ∧ ∀ u ∈ bts m, f + u < os.length := by
  have nd : os.Nodup := p.nodup_iff.mpr List.nodup_range
  have ln : os.length = N := by rw [p.length_eq, List.length_range]
  have lt : ∀ u ∈ bts m, f + u < os.length := fun u hu => by
    have := bits_below hm hu
    omega
  refine ⟨?_, fun u hu => ?_, lt⟩
  · refine List.pairwise_map.mpr ((bts_nodup m).imp_of_mem fun {a b} ha hb ne => ?_)
    exact nodup_getD nd (lt a ha) (lt b hb) (by omega)
  · obtain ⟨w, hw, rfl⟩ := List.mem_map.mp hu
    have h := lt w hw
    rw [List.getD_eq_getElem?_getD, List.getElem?_eq_getElem h]
    exact List.mem_range.mp (p.mem_iff.mp (List.getElem_mem h))
def keepB (ls : List (Nat × Nat)) (f : Nat → Bool) : Bool := ls.any fun l => holdsB l f
theorem miss_sem {ls : List (Nat × Nat)} (hl : ∀ l ∈ ls, l.1 < 2 ^ 63 ∧ l.2 < 2) : (∀ hs, lflat (ls.map flipL) = some hs → ∀ f, sol hs f ↔ keepB ls f = false) ∧ (lflat (ls.map flipL) = none → ∀ f, keepB ls f = true) := by
  obtain ⟨a1, a2⟩ := lflat_sol _ (flip_lt hl)
  have key : ∀ f, (∀ l ∈ ls.map flipL, holdsL l f) ↔ keepB ls f = false := fun f => by
    have e := all_flip (ls := ls) (fun l h => (hl l h).2) f
    have e2 : (∀ l ∈ ls.map flipL, holdsL l f) ↔ ((ls.map flipL).all fun l => holdsB l f) = true := by
      rw [List.all_eq_true]
      exact ⟨fun h l m => holdsB_iff.mpr (h l m), fun h l m => holdsB_iff.mp (h l m)⟩
    rw [e2, e]
    unfold keepB
    cases (ls.any fun l => holdsB l f) <;> simp
  refine ⟨fun hs q f => (a1 hs q f).trans (key f), fun q f => ?_⟩
  have h := a2 q f
  rw [key f] at h
  cases e : keepB ls f with
  | true => rfl
  | false => exact absurd e h
theorem folB_iff {ls ks : List (Nat × Nat)} (hl : ∀ l ∈ ls, l.1 < 2 ^ 63 ∧ l.2 < 2) (hk : ∀ l ∈ ks, l.1 < 2 ^ 63 ∧ l.2 < 2) : folB ls ks = true ↔ ∀ f, keepB ks f = true → keepB ls f = true := by
  obtain ⟨a1, a2⟩ := miss_sem hl
  obtain ⟨b1, b2⟩ := miss_sem hk
  unfold folB
  cases q1 : lflat (ls.map flipL) with
  | none => exact ⟨fun _ f _ => a2 q1 f, fun _ => rfl⟩
  | some hs =>
    have F := lflat_flat _ (flip_lt hl) hs q1
    cases q2 : lflat (ks.map flipL) with
    | none =>
      refine ⟨fun h => (by cases h), fun h => ?_⟩
      obtain ⟨f, sf⟩ := flat_has F
      have := h f (b2 q2 f)
      rw [(a1 hs q1 f).mp sf] at this
      cases this
    | some gs =>
      have FG := lflat_flat _ (flip_lt hk) gs q2
      show liesB hs (canon gs) = true ↔ _
      rw [lies_iff F FG]
      constructor
      · intro h f hf
        cases e : keepB ls f with
        | true => rfl
        | false =>
          have := (b1 gs q2 f).mp (h f ((a1 hs q1 f).mpr e))
          rw [hf] at this
          cases this
      · intro h f sf
        refine (b1 gs q2 f).mpr ?_
        cases e : keepB ks f with
        | false => rfl
        | true =>
          have := h f e
          rw [(a1 hs q1 f).mp sf] at this
          cases this
theorem keep_num {n : Nat} {ls ks : List (Nat × Nat)} (hl : ∀ l ∈ ls, l.1 < 2 ^ n ∧ l.2 < 2) (hk : ∀ l ∈ ks, l.1 < 2 ^ n ∧ l.2 < 2) (f : Nat → Bool) : ∃ s, s < 2 ^ n ∧ keepB ls (fS n s) = keepB ls f ∧ keepB ks (fS n s) = keepB ks f := by
  obtain ⟨s, hs, h⟩ := holds_num (n := n) f
  have go : ∀ ms : List (Nat × Nat), (∀ l ∈ ms, l.1 < 2 ^ n ∧ l.2 < 2) → keepB ms (fS n s) = keepB ms f := fun ms hm => by
    rw [Bool.eq_iff_iff]
    unfold keepB
    rw [List.any_eq_true, List.any_eq_true]
    constructor
    · rintro ⟨l, m, hh⟩
      exact ⟨l, m, holdsB_iff.mpr ((h l (hm l m).1).mp (holdsB_iff.mp hh))⟩
    · rintro ⟨l, m, hh⟩
      exact ⟨l, m, holdsB_iff.mpr ((h l (hm l m).1).mpr (holdsB_iff.mp hh))⟩
  exact ⟨s, hs, go ls hl, go ks hk⟩
theorem two63 {n : Nat} (n62 : n ≤ 62) {ls : List (Nat × Nat)} (hl : ∀ l ∈ ls, l.1 < 2 ^ n ∧ l.2 < 2) : ∀ l ∈ ls, l.1 < 2 ^ 63 ∧ l.2 < 2 := fun l h => ⟨Nat.lt_of_lt_of_le (hl l h).1 (Nat.pow_le_pow_right (by decide) (by omega)), (hl l h).2⟩
theorem fol_bits {n x y : Nat} {ls ks : List (Nat × Nat)} (n62 : n ≤ 62) (hl : ∀ l ∈ ls, l.1 < 2 ^ n ∧ l.2 < 2) (hk : ∀ l ∈ ks, l.1 < 2 ^ n ∧ l.2 < 2) (hx : BitsOf (2 ^ n) x (fun s => keepB ls (fS n s))) (hy : BitsOf (2 ^ n) y (fun s => keepB ks (fS n s))) :
    folB ls ks = decide (x &&& y = y) := by
  rw [Bool.eq_iff_iff, decide_eq_true_eq, folB_iff (two63 n62 hl) (two63 n62 hk)]
  constructor
  · intro h
    refine BitsOf.uniq (hx.and hy) (hy.congr fun s hs => ?_)
    cases e : keepB ks (fS n s) with
    | false => simp
    | true => rw [h _ e]; rfl
  · intro h f hf
    obtain ⟨s, hs, e1, e2⟩ := keep_num hl hk f
    have t := (hx.and hy).2 s hs
    rw [h, hy.2 s hs] at t
    dsimp only at t
    rw [e1, e2, hf] at t
    rw [← Bool.and_true (keepB ls f)]
    exact t.symm
theorem eqv_line_iff {l k : Nat × Nat} (hl : l.1 < 2 ^ 63) (hk : k.1 < 2 ^ 63) (h : PyData.eqv (lineD l) (lineD k) = true) : l = k := by
  have h : (PyData.eqv (sumD l.1) (sumD k.1) && (PyData.eqv (.int (l.2 : Int)) (.int (k.2 : Int)) && true)) = true := h
  rw [Bool.and_eq_true, Bool.and_true] at h
  have h2 : ((l.2 : Int) == (k.2 : Int)) = true := h.2
  have h2 := beq_iff_eq.mp h2
  exact Prod.ext (eqv_sumD_iff hl hk h.1) (by omega)
theorem eqv_lines_iff : ∀ {ls ks : List (Nat × Nat)}, (∀ l ∈ ls, l.1 < 2 ^ 63) → (∀ l ∈ ks, l.1 < 2 ^ 63) → PyData.eqvAll (ls.map lineD) (ks.map lineD) = true → ls = ks
  | [], [], _, _, _ => rfl
  | [], _ :: _, _, _, h => by cases h
  | _ :: _, [], _, _, h => by cases h
  | l :: ls, k :: ks, hl, hk, h => by
    have h : (PyData.eqv (lineD l) (lineD k) && PyData.eqvAll (ls.map lineD) (ks.map lineD)) = true := h
    rw [Bool.and_eq_true] at h
    rw [eqv_line_iff (hl l List.mem_cons_self) (hk k List.mem_cons_self) h.1, eqv_lines_iff (fun x m => hl x (List.mem_cons_of_mem _ m)) (fun x m => hk x (List.mem_cons_of_mem _ m)) h.2]
theorem eqv_flat_iff {hs gs : List (Nat × Nat × Nat)} (F : FlatOk hs) (FG : FlatOk gs) : PyData.eqv (flatD hs) (flatD gs) = true ↔ canon hs = canon gs := by
  constructor
  · intro h
    exact eqv_lines_iff (fun l m => (canon_lt F l m).1) (fun l m => (canon_lt FG l m).1) (show PyData.eqvAll _ _ = true from h)
  · intro h
    unfold flatD
    rw [h]
    exact SeqAt.eqv_refl _ (nice_facts _ (flatD_facts FG).1).1
theorem sol_canon {hs gs : List (Nat × Nat × Nat)} (F : FlatOk hs) (FG : FlatOk gs) (e : canon hs = canon gs) (f : Nat → Bool) : sol hs f ↔ sol gs f := by
  rw [← all_canon F f, ← all_canon FG f, e]
theorem sam_bits {n x y : Nat} {ls ks : List (Nat × Nat)} (n62 : n ≤ 62) (hl : ∀ l ∈ ls, l.1 < 2 ^ n ∧ l.2 < 2) (hk : ∀ l ∈ ks, l.1 < 2 ^ n ∧ l.2 < 2) (hx : BitsOf (2 ^ n) x (fun s => keepB ls (fS n s))) (hy : BitsOf (2 ^ n) y (fun s => keepB ks (fS n s))) :
    samB ls ks = decide (x = y) := by
  obtain ⟨a1, a2⟩ := miss_sem (two63 n62 hl)
  obtain ⟨b1, b2⟩ := miss_sem (two63 n62 hk)
  have same : x = y ↔ ∀ f, keepB ls f = keepB ks f := by
    constructor
    · intro h f
      obtain ⟨s, hs, e1, e2⟩ := keep_num hl hk f
      rw [← e1, ← e2]
      have t := hx.2 s hs
      rw [h, hy.2 s hs] at t
      exact t.symm
    · intro h
      exact BitsOf.uniq hx (hy.congr fun s _ => (h _).symm)
  rw [Bool.eq_iff_iff, decide_eq_true_eq, same]
  unfold samB
  cases q1 : lflat (ls.map flipL) with
  | none =>
    cases q2 : lflat (ks.map flipL) with
    | none => exact ⟨fun _ f => by rw [a2 q1 f, b2 q2 f], fun _ => rfl⟩
    | some gs =>
      refine ⟨fun h => (by cases h), fun h => ?_⟩
      obtain ⟨f, sf⟩ := flat_has (lflat_flat _ (flip_lt (two63 n62 hk)) gs q2)
      have := h f
      rw [a2 q1 f, (b1 gs q2 f).mp sf] at this
      cases this
  | some hs =>
    have F := lflat_flat _ (flip_lt (two63 n62 hl)) hs q1
    cases q2 : lflat (ks.map flipL) with
    | none =>
      refine ⟨fun h => (by cases h), fun h => ?_⟩
      obtain ⟨f, sf⟩ := flat_has F
      have := h f
      rw [b2 q2 f, (a1 hs q1 f).mp sf] at this
      cases this
    | some gs =>
      have FG := lflat_flat _ (flip_lt (two63 n62 hk)) gs q2
      show PyData.eqv (flatD hs) (flatD gs) = true ↔ _
      rw [eqv_flat_iff F FG]
      constructor
      · intro e f
        have h1 := (a1 hs q1 f).symm.trans ((sol_canon F FG e f).trans (b1 gs q2 f))
        cases h2 : keepB ls f <;> cases h3 : keepB ks f <;> simp_all
      · intro h
        refine canon_uniq F FG fun f => ?_
        rw [a1 hs q1 f, b1 gs q2 f, h f]
def sp_law_is_following_right (K : PySem.W.Frag) : Sp := fun vs H Q _ => ∃ (v u w : V) (n : Nat) (ls ks : List (Nat × Nat)), vs = [v, u, w] ∧ RoomV K H v n ∧ n ≤ 7 ∧ LinesV K H u ls ∧ (∀ l ∈ ls, l.1 < 2 ^ n ∧ l.2 < 2) ∧ ls.length ≤ 60 ∧ LinesV K H w ks ∧ (∀ l ∈ ks, l.1 < 2 ^ n ∧ l.2 < 2) ∧ ks.length ≤ 60 ∧
  ∀ H', Same H H' → Q (.bl true) H'
def sp_law_beside (K : PySem.W.Frag) : Sp := fun vs H Q _ => ∃ (b c : Addr) (v : V) (n : Nat) (ls : List (Nat × Nat)), vs = [.ref b, .int (n : Int), v] ∧ BagAt K H b c ∧ 0 < n ∧ n ≤ 12 ∧ LinesV K H v ls ∧ (∀ l ∈ ls, l.1 < 2 ^ n ∧ l.2 < 2) ∧ ls.length ≤ 20 ∧
  ∀ H' u ks, But b H H' → BagAt K H' b c → LinesV K H' u ks → (∀ l ∈ ks, l.1 < 2 ^ n ∧ l.2 < 2) → ks.length ≤ 60 → Q u H'
theorem cut_last (us : List V) : cutV us none (some (-1)) = us.take (us.length - 1) := by
  unfold cutV
  have h0 : HT.sIx us.length 0 none = 0 := rfl
  have h1 : HT.sIx us.length us.length (some (-1)) = us.length - 1 := by
    show (if (-1 : Int) < 0 then ((-1 : Int) + (us.length : Int)).toNat else min (-1 : Int).toNat us.length) = _
    rw [if_pos (by decide)]
    omega
  rw [h0, h1]
  rfl
def boolsD (bs : List Bool) : PyData := .list (bs.map .bool)
theorem bools_dp {K : PySem.W.Frag} {H : Hp} : ∀ bs : List Bool, DpAll K H (bs.map V.bl) (bs.map .bool)
  | [] => .nil
  | b :: bs => .cons (.bl b) (bools_dp bs)
theorem bools_facts (bs : List Bool) (h : bs.length ≤ 1000) : nice (boolsD bs) = true ∧ (boolsD bs).depth ≤ 40 ∧ (boolsD bs).weight ≤ 2 ^ 20 := by
  have d : ∀ bs : List Bool, PyData.depthAll (bs.map .bool) = 0 := fun bs => by
    induction bs with
    | nil => rfl
    | cons b bs ih =>
      show max 0 (PyData.depthAll (bs.map .bool)) = 0
      rw [ih]
      rfl
  have w : ∀ bs : List Bool, PyData.weightAll (bs.map .bool) ≤ 10 * bs.length := fun bs => by
    induction bs with
    | nil => exact Nat.zero_le _
    | cons b bs ih =>
      show PyData.weight (.bool b) + 1 + PyData.weightAll (bs.map .bool) ≤ _
      have : PyData.weight (.bool b) ≤ 9 := by cases b <;> decide
      rw [List.length_cons]
      omega
  refine ⟨niceAll_iff.mpr fun x hx => ?_, ?_, ?_⟩
  · obtain ⟨b, _, rfl⟩ := List.mem_map.mp hx
    rfl
  · show PyData.depthAll (bs.map .bool) + 1 ≤ 40
    rw [d]
    decide
  · have := w bs
    show PyData.weightAll (bs.map .bool) ≤ _
    omega
theorem bts_lenN {m n : Nat} (h : m < 2 ^ n) : (bts m).length ≤ n := by
  have := nodup_len (l := bts m) (m := List.range n) (bts_nodup m) fun u hu => List.mem_range.mpr (bits_below h hu)
  rwa [List.length_range] at this
theorem weight_sumN {m n : Nat} (h : m < 2 ^ n) : (sumD m).weight ≤ 7 * n := by
  have w := weight_ints (k := 6) (ns := (bts m).map Int.ofNat) fun i hi => by
    obtain ⟨u, hu, rfl⟩ := List.mem_map.mp hi
    have := (mem_bts.mp hu).1
    show u < 2 ^ 6
    omega
  have l := bts_lenN h
  rw [List.length_map] at w
  show PyData.weightAll _ ≤ 7 * n
  omega
theorem weight_lineN {n : Nat} {l : Nat × Nat} (h : l.1 < 2 ^ n ∧ l.2 < 2) : (lineD l).weight ≤ 7 * n + 3 := by
  have w1 := weight_sumN h.1
  have w2 : PyData.weight (.int (l.2 : Int)) ≤ 1 := weight_int (show l.2 < 2 ^ 1 by omega)
  show (sumD l.1).weight + 1 + (PyData.weight (.int (l.2 : Int)) + 1 + 0) ≤ 7 * n + 3
  omega
theorem weight_linesN {n : Nat} : ∀ {ls : List (Nat × Nat)}, (∀ l ∈ ls, l.1 < 2 ^ n ∧ l.2 < 2) → PyData.weightAll (ls.map lineD) ≤ (7 * n + 4) * ls.length
  | [], _ => Nat.zero_le _
  | l :: ls, h => by
    have w1 := weight_lineN (h l List.mem_cons_self)
    have w2 := weight_linesN fun x m => h x (List.mem_cons_of_mem _ m)
    show (lineD l).weight + 1 + PyData.weightAll (ls.map lineD) ≤ _
    rw [List.length_cons, Nat.mul_add, Nat.mul_one]
    omega
theorem linesT_facts {n : Nat} (n12 : n ≤ 12) {ls : List (Nat × Nat)} (h : ∀ l ∈ ls, l.1 < 2 ^ n ∧ l.2 < 2) : nice (.tuple (ls.map lineD)) = true ∧ (PyData.tuple (ls.map lineD)).depth ≤ 3 ∧ (PyData.tuple (ls.map lineD)).weight ≤ 88 * ls.length := by
  refine ⟨niceAll_iff.mpr fun x hx => ?_, ?_, ?_⟩
  · obtain ⟨l, hl, rfl⟩ := List.mem_map.mp hx
    exact nice_line (h l hl).2
  · show PyData.depthAll _ + 1 ≤ 3
    have := depth_lines ls
    omega
  · show PyData.weightAll _ ≤ 88 * ls.length
    exact Nat.le_trans (weight_linesN h) (Nat.mul_le_mul_right _ (by omega))
theorem flatN_facts {n : Nat} (n12 : n ≤ 12) {hs : List (Nat × Nat × Nat)} (F : FlatOk hs) (hlt : ∀ e ∈ hs, e.2.1 < 2 ^ n) : nice (flatD hs) = true ∧ (flatD hs).depth ≤ 3 ∧ (flatD hs).weight ≤ 1056 := by
  obtain ⟨a, b, c⟩ := linesT_facts n12 (canon_below F hlt)
  refine ⟨a, b, Nat.le_trans c ?_⟩
  rw [flat_len F]
  have := heads_le F hlt
  omega
theorem missD_facts {n : Nat} (n12 : n ≤ 12) {ls : List (Nat × Nat)} (h : ∀ l ∈ ls, l.1 < 2 ^ n ∧ l.2 < 2) : nice (optFD (lflat (ls.map flipL))) = true ∧ (optFD (lflat (ls.map flipL))).depth ≤ 3 ∧ (optFD (lflat (ls.map flipL))).weight ≤ 1056 := by
  cases q : lflat (ls.map flipL) with
  | none => exact ⟨rfl, Nat.zero_le _, Nat.zero_le _⟩
  | some hs => exact flatN_facts n12 (lflat_flat _ (flip_lt (two63 (by omega) h)) hs q) (lflat_lt (by omega) _ (flip_lt h) hs q)
theorem list_facts {ds : List PyData} {k w : Nat} (h : ∀ d ∈ ds, nice d = true ∧ d.depth ≤ k ∧ d.weight ≤ w) (hk : k < 40) (hw : (w + 1) * ds.length ≤ 2 ^ 20) : nice (.list ds) = true ∧ (PyData.list ds).depth ≤ 40 ∧ (PyData.list ds).weight ≤ 2 ^ 20 := by
  have dp : ∀ ds : List PyData, (∀ d ∈ ds, d.depth ≤ k) → PyData.depthAll ds ≤ k := fun ds => by
    induction ds with
    | nil => exact fun _ => Nat.zero_le _
    | cons d ds ih =>
      intro h
      exact Nat.max_le.mpr ⟨h d List.mem_cons_self, ih fun x m => h x (List.mem_cons_of_mem _ m)⟩
  have wt : ∀ ds : List PyData, (∀ d ∈ ds, d.weight ≤ w) → PyData.weightAll ds ≤ (w + 1) * ds.length := fun ds => by
    induction ds with
    | nil => exact fun _ => Nat.zero_le _
    | cons d ds ih =>
      intro h
      have a := h d List.mem_cons_self
      have b := ih fun x m => h x (List.mem_cons_of_mem _ m)
      show d.weight + 1 + PyData.weightAll ds ≤ _
      rw [List.length_cons, Nat.mul_add, Nat.mul_one]
      omega
  refine ⟨niceAll_iff.mpr fun d m => (h d m).1, ?_, Nat.le_trans (wt ds fun d m => (h d m).2.2) hw⟩
  have := dp ds fun d m => (h d m).2.1
  show PyData.depthAll ds + 1 ≤ 40
  omega
theorem dp_linesV {K : PySem.W.Frag} {H : Hp} {v : V} {ls : List (Nat × Nat)} (h : LinesV K H v ls) : Dp K H v (.tuple (ls.map lineD)) := by
  obtain ⟨t, us, rfl, h1, h2⟩ := h
  exact .tup h1 (dp_lines h2)
theorem miss_dp {K : PySem.W.Frag} {H : Hp} : ∀ {us : List V} {cs : List (List (Nat × Nat))}, Paired (MissV K H) us cs → DpAll K H us (cs.map fun ls => optFD (lflat (ls.map flipL)))
  | _, _, .nil => .nil
  | _, _, .cons h t => .cons (dp_optF h) (miss_dp t)
end Es
set_option Elab.async false
set_option linter.all false
set_option maxRecDepth 100000
set_option maxHeartbeats 4000000
namespace Es
open PySem PySem.Spec PyProof.Rows L2
abbrev enumObj (hp : Heap) : Obj := { cls := .type "enumerate", data := .fields #[.none, .bool false, .ref hp.objs.size, rawInt 0, .none, .none] }
theorem meets_enum1 {v : Value} {o : Obj} {Hs : Heap → Prop} (B : Begins v o Hs) : Meets (Builtin.«enumerate.__new__» ⟨[.type "enumerate", v], []⟩) (fun _ R s => Hs s.heap ∧
    R (.ok (.ret (.ref (s.heap.push o).objs.size))) { s with heap := (s.heap.push o).push (enumObj s.heap) }) := by
  refine .of_wp fun prog w A R s h => ?_
  obtain ⟨hp, g, d, tk, os⟩ := s
  obtain ⟨h1, h⟩ := h
  have sub := sub_enumerate
  have go : ∀ {A' : Around} {E' Q' : Value → Shared → Prop}, Q' (.ref hp.objs.size) ⟨hp.push o, g, d, tk, os⟩ → wpAny (model prog w) A' (pyIter v) Q' E' ⟨hp, g, d, tk, os⟩ := fun q => B.iter prog w _ _ ⟨hp, g, d, tk, os⟩ _ h1 q
  wp_walk using go
  refine wpAny_stack_any fun st => wpAny_pure ?_
  split
  · rename_i c _ _ _ _ _
    cases (c == Value.type "enumerate") <;> (wp_walk using go; exact ⟨_, rfl, h⟩)
  · wp_walk using go
    exact ⟨_, rfl, h⟩
section
variable {prog : Program} {w : World} {A : Around} {E : Value → Shared → Prop} {s : Shared}
theorem call_enum1 {v : Value} {o : Obj} {Hs : Heap → Prop} {Q : Value → Shared → Prop} (B : Begins v o Hs) (h1 : Hs s.heap)
    (h : ∀ h', IsEnum h' (s.heap.objs.size + 1) s.heap.objs.size 0 .none → h'.get? s.heap.objs.size = some o → h'.objs.size = s.heap.objs.size + 2 → (∀ b x, s.heap.get? b = some x → h'.get? b = some x) → Q (.ref (s.heap.objs.size + 1)) { s with heap := h' }) :
    wpAny (model prog w) A (call (.type "enumerate") [v]) Q E s := by
  refine callType_new F.called_enumerate (by decide) (F.typeCall_enumerate_1 _) (F.newCall_enumerate_1 _) (fun obj => F.args_object_init_2 obj _) F.entry_enumerate_new (meets_enum1 B) ⟨h1, ?_⟩
  have sz : (s.heap.push o).objs.size = s.heap.objs.size + 1 := Heap.size_push ..
  have he := Heap.get?_push_size (s.heap.push o) (o := enumObj s.heap) rfl
  show _ ∧ _
  rw [sz] at he ⊢
  exact ⟨⟨_, he, rfl⟩, h _ he (Heap.get?_push_of_some _ (Heap.get?_push_size _ B.free)) (by rw [Heap.size_push, sz]) fun b x e => Heap.get?_push_of_some _ (Heap.get?_push_of_some _ e)⟩
end
def IteT (K : PySem.W.Frag) (a : Addr) : It :=
  ⟨fun i H => ∃ (xs : List V) (x : V), SqT K H a xs ∧ xs[i]? = some x, fun i H v H' => ∃ T x, v = .ref T ∧ H T = none ∧ H' = upd H T (.tup [.int (i : Nat), x]) ∧ ∀ xs, SqT K H a xs → xs[i]? = some x, fun i H => ∃ xs : List V, SqT K H a xs ∧ xs.length ≤ i⟩
theorem turn_enumT {P : Program} {w : World} {K : PySem.W.Frag} {elts : List Expr} {kk : Nat} {tpos : Pos} (a e it : Addr) :
    Turn P w K (.Tuple elts kk tpos) (IteT K a) [e, it] e (fun i h => (∃ old, IsEnum h e it ((i : Nat) : Int) old) ∧ h.IsTupleIter it a i ∧ e ≠ it) where
  mem := List.mem_cons_self
  obj := fun i h st b hb => by
    obtain ⟨⟨old, he⟩, ⟨o, ho, hc, hd⟩, _⟩ := st
    rcases List.mem_cons.mp hb with rfl | hb
    · exact ⟨_, he, fun v q => nomatch q⟩
    · rw [List.mem_singleton.mp hb]
      exact ⟨o, ho, fun v q => by rw [hd] at q; cases q⟩
  keep := fun i h h' st k => let ⟨⟨old, he⟩, hi, hne⟩ := st; ⟨⟨old, k e List.mem_cons_self _ he⟩, hi.at fun o q => k it (by simp) o q, hne⟩
  item := by
    intro X hP hw hK hc i pins s σ H E I hf st hg
    subst hP hw hK
    obtain ⟨⟨old, he⟩, hit, hne⟩ := st
    obtain ⟨xs, x, hq, hx⟩ := hg
    obtain ⟨its, rv, p, hz⟩ := I.tuple hq
    have p : s.heap.IsTuple a its.toArray := p
    obtain ⟨u, hu, ru⟩ := rv.get hx
    have hel : e < s.heap.objs.size := Heap.lt_size he
    have hil : it < s.heap.objs.size := by obtain ⟨_, q, _⟩ := hit; exact Heap.lt_size q
    have ha : a ≠ it := fun z => by
      obtain ⟨o1, q1, c1, _⟩ := hit
      obtain ⟨o2, q2, c2, _⟩ := p
      rw [z, q1] at q2
      rw [← Option.some.inj q2, c1] at c2
      injection c2 with c2
      exact absurd c2 (by decide)
    have ea : e ∉ [it, a] := fun z => by
      rcases List.mem_cons.mp z with z | z
      · exact hne z
      · obtain ⟨o2, q2, c2, _⟩ := p
        rw [← List.mem_singleton.mp z, he] at q2
        rw [← Option.some.inj q2] at c2
        injection c2 with c2
        exact absurd c2 (by decide)
    have ilt : i < its.toArray.size := by
      have := (List.getElem?_eq_some_iff.mp hu).1
      rw [List.size_toArray]
      exact this
    refine wpAny_pyNext_enum_itemD (Draws.tuple (show X.A.in1.handled = none from I.ok.hd hc) it a ha its.toArray) he ⟨hit, p⟩ ilt hne ea fun x' h' tk hx' ho st' hT hsz hk => ?_
    have exu : x' = u := by
      have h1 : its.toArray[i]? = some u := by simpa using hu
      exact Option.some.inj (hx'.symm.trans h1)
    subst exu
    refine ⟨_, rfl, wpAny_letOwnedTupleGo_enum (s := { s with heap := h', toks := tk + 1 }) ho fun h'' he' sb => ?_⟩
    have hT2 := (sb.2 _ (Nat.ne_of_gt hel)).trans hT
    have new : ObjOk X.prog X.w (upd H s.heap.objs.size (.tup [.int (i : Nat), x])) h'' s.heap.objs.size (.tup [.int (i : Nat), x]) :=
      ⟨by show 2 ≤ sizeLine; decide, [.int i tk, x'], .cons ⟨_, rfl⟩ (.cons ru .nil), ⟨_, hT2, rfl, _, rfl⟩⟩
    have I1 := I.turnedNew (ch := [e, it]) (t' := tk + 1) (fun b ob hb q => (sb.2 b (fun z => hb (by simp [z]))).trans (hk b ob (fun z => hb (by simp [z])) (fun z => hb (by simp [z])) q)) hf (Nat.le_refl _) new
    refine ⟨.ref s.heap.objs.size, _, I1, rfl, ⟨_, x, rfl, I.hok.fresh (Nat.le_refl _), rfl, fun ys hy => by rw [I.tuple_inj hy hq]; exact hx⟩, ⟨⟨x', ?_⟩, st'.1.at fun o q => (sb.2 it (Ne.symm hne)).trans q, hne⟩, fun b hb => ?_⟩
    · rw [show ((i + 1 : Nat) : Int) = (i : Int) + 1 by omega]
      exact he'
    · have hb' : b < s.heap.objs.size := by
        rcases List.mem_cons.mp hb with rfl | z
        · exact hel
        · rw [List.mem_singleton.mp z]
          exact hil
      rw [upd_ne (Nat.ne_of_lt hb')]
      exact (hf b hb).1
  done := by
    intro X hP hw hK hc i pins s σ H E I hf st hg
    subst hP hw hK
    obtain ⟨⟨old, he⟩, hit, hne⟩ := st
    obtain ⟨xs, hq, hx⟩ := hg
    obtain ⟨its, rv, p, hz⟩ := I.tuple hq
    have p : s.heap.IsTuple a its.toArray := p
    obtain ⟨f0, f1, f2, f3, f4, f5⟩ := hf it (by simp)
    have hl := rv.length
    have out : its.toArray[i]? = none := by simp; omega
    have D : Draws X.prog X.w X.A.in1 it [it, a] i (fun _ _ => True) (fun k h => k = i ∧ h.IsTupleIter it a i ∧ h.IsTuple a its.toArray) := {
      live := fun _ _ st => let ⟨o, ho, _⟩ := st.2.1; ⟨o, ho⟩
      frame := fun _ _ _ st hk => ⟨st.1, st.2.1.at fun o e => hk it (by simp) o e, st.2.2.at fun o e => hk a (by simp) o e⟩
      item := fun k _ _ _ lt st _ => absurd st.1 (Nat.ne_of_lt lt)
      done := fun _ _ _ st hE => RZ.nextOf_tuple_end (show X.A.in1.handled = none from I.ok.hd hc) st.2.1 st.2.2 out hE }
    exact wpAny_pyNext_enum_endD D he ⟨rfl, hit, p⟩ fun h' eb => ⟨rfl, I.turned (t' := s.toks) (fun b o hb q => eb b o hb q) f0 f1 f3 f4 f5⟩
  self := fun A i s Q E st h => let ⟨⟨_, he⟩, _⟩ := st; wpAny_pyIter_enum he h
def iEnumT (K : PySem.W.Frag) (ta : TA) : TI := fun σ H R => ta σ H fun vs H1 => ∃ a xs, vs = [.ref a] ∧ SqT K H1 a xs ∧ R (IteT K a) H1
theorem pi_enumT {X : Cx} {e : Expr} {ta : TA} {p pos tpos : Pos} {elts : List Expr} {kk : Nat} (hg : Gl X "enumerate") (hm : X.mg "enumerate" = none) (ha : PA X [e] ta) (hs : starEach [e] X.env = [(false, eval e X.env)] := by rfl) :
    PI X (.Tuple elts kk tpos) (.Call (.Name "enumerate" p) [e] [] pos) (iEnumT X.K ta) := by
  refine ⟨fun pins s σ H R I h => ?_⟩
  refine Call_ (ld_blt I hg hm boot_enumerate (PyProof.Rows.callWith_type1 (thn (ha.run pos pins s σ H _ I h) fun us s1 ⟨vs, H1, I1, r1, a, xs, ex, hq, q⟩ => ?_) hs rfl))
  subst ex
  rw [Vals.ref1 r1]
  obtain ⟨its, rv, p', hz⟩ := I1.tuple hq
  refine call_enum1 (begins_tuple a its.toArray) p' fun h' he hit hsz hk => wpAny_pyIter_enum he ?_
  have sz := Nat.le_refl s1.heap.objs.size
  refine ⟨s1.heap.objs.size + 1, [s1.heap.objs.size + 1, s1.heap.objs.size], _, _, H1, rfl, I1.kept (t' := s1.toks) hk, turn_enumT a (s1.heap.objs.size + 1) s1.heap.objs.size, ⟨⟨.none, he⟩, ⟨_, hit, rfl, rfl⟩, Nat.succ_ne_self _⟩, fun b hb => ?_, q⟩
  have hle : s1.heap.objs.size ≤ b := by
    rcases List.mem_cons.mp hb with z | z
    · rw [z]; exact Nat.le_succ _
    · rw [List.mem_singleton.mp z]; exact Nat.le_refl _
  exact I1.fpOk hle (I1.hok.fresh hle)
theorem for_enumT {K : PySem.W.Frag} {a : Addr} {xs : List V} {g : TG} {tb : TS} {D : Ends} {σ : L2.St} {H : Hp} (Pv : Nat → L2.St → Hp → Prop) (h0 : Pv 0 σ H) (hl : ∀ i σ H, Pv i σ H → SqT K H a xs)
    (hs : ∀ i x T σ H, xs[i]? = some x → Pv i σ H → H T = none → g (.ref T) σ (upd H T (.tup [.int (i : Nat), x])) fun σ2 H2 => tb { D with nx := Pv (i + 1), ct := Pv (i + 1), bk := D.nx } σ2 H2)
    (hd : ∀ σ H, Pv xs.length σ H → D.nx σ H) :
    ∃ W : Nat → Nat → L2.St → Hp → Prop, (∃ m, W 0 m σ H) ∧ ∀ i m σ H, W i m σ H →
      ((IteT K a).stop i H ∧ D.nx σ H) ∨ ((IteT K a).go i H ∧ ∃ N : L2.St → Hp → Prop, (∀ σ' H', N σ' H' → ∃ m', m' < m ∧ W (i + 1) m' σ' H') ∧ ∀ x H', (IteT K a).yld i H x H' → g x σ H' fun σ2 H2 => tb { D with nx := N, ct := N, bk := D.nx } σ2 H2) := by
  refine ⟨fun i m σ H => i + m = xs.length ∧ Pv i σ H, ⟨xs.length, Nat.zero_add _, h0⟩, fun i m σ H ⟨hm, p⟩ => ?_⟩
  have q := hl i σ H p
  by_cases lt : i < xs.length
  · refine .inr ⟨⟨xs, xs[i], q, List.getElem?_eq_getElem lt⟩, Pv (i + 1), fun σ' H' p' => ⟨m - 1, by omega, by omega, p'⟩, ?_⟩
    rintro x H' ⟨T, y, rfl, nT, rfl, f⟩
    have ey := Option.some.inj ((f xs q).symm.trans (List.getElem?_eq_getElem lt))
    subst ey
    exact hs i _ T σ H (List.getElem?_eq_getElem lt) p nT
  · have e : i = xs.length := by omega
    subst e
    exact .inl ⟨⟨xs, q, Nat.le_refl _⟩, hd σ H p⟩
theorem lc_enumT {K : PySem.W.Frag} {a : Addr} {xs : List V} {g : TG} {tt : TT} {te : TE} {vs : List Nat} {σ : L2.St} {H1 : Hp} {D : Addr} {Qd : Hp → Prop} (Pv : Nat → Hp → Prop) (h0 : Pv 0 (upd H1 D (.lst []))) (hl : ∀ i H, Pv i H → SqT K H a xs)
    (hs : ∀ i x T H, xs[i]? = some x → Pv i H → H T = none → g (.ref T) (wipe σ vs) (upd H T (.tup [.int (i : Nat), x])) fun σ2 H2 => wipe σ2 vs = wipe σ vs ∧ tt σ2 H2 fun b H3 =>
      if b = true then te σ2 H3 fun y H4 => ∃ acc, H4 D = some (.lst acc) ∧ acc.length < sizeLine ∧ Pv (i + 1) (upd H4 D (.lst (acc ++ [y]))) else Pv (i + 1) H3) (hd : ∀ H, Pv xs.length H → Qd H) :
    ∃ W : Nat → Nat → Hp → Prop, (∃ m, W 0 m (upd H1 D (.lst []))) ∧ ∀ i m H, W i m H →
      ((IteT K a).stop i H ∧ Qd H) ∨ ((IteT K a).go i H ∧ ∃ Nx : Hp → Prop, (∀ H', Nx H' → ∃ m', m' < m ∧ W (i + 1) m' H') ∧ ∀ x H', (IteT K a).yld i H x H' → g x (wipe σ vs) H' fun σ2 H2 => wipe σ2 vs = wipe σ vs ∧ tt σ2 H2 fun b H3 =>
        if b = true then te σ2 H3 fun y H4 => ∃ acc, H4 D = some (.lst acc) ∧ acc.length < sizeLine ∧ Nx (upd H4 D (.lst (acc ++ [y]))) else Nx H3) := by
  refine ⟨fun i m H => i + m = xs.length ∧ Pv i H, ⟨xs.length, Nat.zero_add _, h0⟩, fun i m H ⟨hm, p⟩ => ?_⟩
  have q := hl i H p
  by_cases lt : i < xs.length
  · refine .inr ⟨⟨xs, xs[i], q, List.getElem?_eq_getElem lt⟩, Pv (i + 1), fun H' p' => ⟨m - 1, by omega, by omega, p'⟩, ?_⟩
    rintro x H' ⟨T, y, rfl, nT, rfl, f⟩
    have ey := Option.some.inj ((f xs q).symm.trans (List.getElem?_eq_getElem lt))
    subst ey
    exact hs i _ T H (List.getElem?_eq_getElem lt) p nT
  · have e : i = xs.length := by omega
    subst e
    exact .inl ⟨⟨xs, q, Nat.le_refl _⟩, hd H p⟩
end Es
set_option Elab.async false
set_option linter.all false
set_option maxRecDepth 100000
set_option maxHeartbeats 4000000
namespace Es
open PySem PySem.Spec PyProof.Rows L2
def keptB (bs : List Nat) (ls : List (Nat × Nat)) : Bool := ls.any fun l => decide (wsum l.1 bs % 2 = l.2)
def Reach (bs : List Nat) (ls : List (Nat × Nat)) : Prop := ∀ l ∈ ls, ∀ u ∈ bts l.1, u < bs.length
def missI (cs : List (List (Nat × Nat))) (bs : List Nat) : List Nat := (List.range cs.length).filter fun i => !keptB bs (cs.getD i [])
def sp_keeps (K : PySem.W.Frag) : Sp := fun vs H Q _ => ∃ (v : V) (b : Addr) (ls : List (Nat × Nat)) (bs : List Nat), vs = [v, .ref b] ∧ LinesV K H v ls ∧ SqT K H b (iv bs) ∧ Reach bs ls ∧ ∀ H', Same H H' → Q (.bl (keptB bs ls)) H'
def sp_keeps_all (K : PySem.W.Frag) : Sp := fun vs H Q _ => ∃ (a b : Addr) (us : List V) (cs : List (List (Nat × Nat))) (bs : List Nat), vs = [.ref a, .ref b] ∧ SqL K H a us ∧ Paired (LinesV K H) us cs ∧ SqT K H b (iv bs) ∧ (∀ ls ∈ cs, Reach bs ls) ∧
  ∀ H', Same H H' → Q (.bl (cs.all (keptB bs))) H'
def sp_missed (K : PySem.W.Frag) : Sp := fun vs H Q _ => ∃ (v : V) (b : Addr) (n : Nat) (cs : List (List (Nat × Nat))) (bs : List Nat), vs = [v, .ref b] ∧ BookV K H v n cs ∧ SqT K H b (iv bs) ∧ (∀ ls ∈ cs, Reach bs ls) ∧ cs.length ≤ 900 ∧
  ∀ H' p, Same H H' → H p = none → H' p = some (.lst (iv (missI cs bs))) → Q (.ref p) H'
def sp_with_clause (K : PySem.W.Frag) : Sp := fun vs H Q _ => ∃ (v u : V) (n : Nat) (cs : List (List (Nat × Nat))) (ls : List (Nat × Nat)), vs = [v, u] ∧ BookV K H v n cs ∧ LinesV K H u ls ∧ cs.length ≤ 900 ∧ ∀ H' w, Same H H' → BookV K H' w n (cs ++ [ls]) → Q w H'
def sp_without_clause (K : PySem.W.Frag) : Sp := fun vs H Q _ => ∃ (v : V) (i n : Nat) (cs : List (List (Nat × Nat))), vs = [v, .int (i : Int)] ∧ BookV K H v n cs ∧ i < cs.length ∧ cs.length ≤ 900 ∧ ∀ H' w, Same H H' → BookV K H' w n (cs.take i ++ cs.drop (i + 1)) → Q w H'
def sp_law_all_kept (K : PySem.W.Frag) : Sp := fun vs H Q _ => ∃ (v : V) (a : Addr) (us : List V) (n : Nat) (cs : List (List (Nat × Nat))), vs = [v, .ref a] ∧ RoomV K H v n ∧ n ≤ 7 ∧ SqT K H a us ∧ Paired (LinesV K H) us cs ∧ (∀ ls ∈ cs, ∀ l ∈ ls, l.1 < 2 ^ n ∧ l.2 < 2) ∧
  ∀ x, BitsOf (2 ^ n) x (fun s => cs.all fun ls => ls.any fun l => holdsB l (fS n s)) → Q (.int (x : Int)) H
theorem missI_snoc {cs : List (List (Nat × Nat))} {bs : List Nat} {i : Nat} : (((List.range (i + 1)).filter fun i => !keptB bs (cs.getD i []))) = ((List.range i).filter fun i => !keptB bs (cs.getD i [])) ++ (if keptB bs (cs.getD i []) = true then [] else [i]) := by
  rw [List.range_succ, List.filter_append]
  congr 1
  by_cases c : keptB bs (cs.getD i []) = true
  · rw [if_pos c, List.filter_cons, c]
    rfl
  · rw [if_neg c, List.filter_cons, Bool.eq_false_iff.mpr c]
    rfl
theorem cut_use {K : PySem.W.Frag} {H : Hp} {a : Addr} {xs : List V} {lo hi : Option Int} {Q : VK} (h : SqT K H a xs) (k : ∀ H' p, Same H H' → SqT K H' p (cutV xs lo hi) → Q (.ref p) H') : rSlA K (.ref a) lo hi H Q := by
  refine ⟨a, xs, rfl, h, fun ⟨w1, w2⟩ => k H a (Same.refl _) ?_, fun w p np => k _ p (same_new np) (.inl (.inl upd_same))⟩
  have e : cutV xs lo hi = xs := by simp [cutV, w1, w2]
  rw [e]
  exact h
theorem cut_fromU {K : PySem.W.Frag} {σ : L2.St} {H : Hp} {a : Addr} {xs : List V} {lo : Option Int} {Q : VK} (h : SqT K H a xs) (k : ∀ H' p, Same H H' → SqT K H' p (cutV xs lo none) → Q (.ref p) H') : tNoPart σ H fun u H3 => rSlA K (.ref a) lo u H3 Q := cut_use h k
def sp_law_is_missed_right (K : PySem.W.Frag) : Sp := fun vs H Q _ => ∃ (b c : Addr) (v : V) (n : Nat) (cs : List (List (Nat × Nat))), vs = [.ref b, v] ∧ BagAt K H b c ∧ BookV K H v n cs ∧ n ≤ 62 ∧ (∀ ls ∈ cs, ClOkW n ls) ∧ cs.length ≤ 240 ∧
  ∀ H', But b H H' → BagAt K H' b c → Q (.bl true) H'
theorem ne_bagK {K : PySem.W.Frag} {H : Hp} {b c p : Addr} (B : BagAt K H b c) (n : H p = none) : p ≠ b := by
  obtain ⟨y, e⟩ := B.lst
  exact (ne_of_none e n).symm
theorem inV_true (ws : List Bool) : inV (.bl true) (ws.map V.bl) = ws.any id := by
  unfold inV
  rw [List.any_map]
  congr 1
  funext w
  cases w <;> rfl
theorem bools_dpK {K : PySem.W.Frag} {H : Hp} : ∀ ws : List Bool, DpAll K H (ws.map V.bl) (ws.map .bool)
  | [] => .nil
  | w :: ws => .cons (.bl w) (bools_dpK ws)
theorem bools_nice : ∀ ws : List Bool, niceAll (ws.map .bool) = true ∧ PyData.depthAll (ws.map .bool) = 0 ∧ PyData.weightAll (ws.map .bool) = ws.length
  | [] => ⟨rfl, rfl, rfl⟩
  | w :: ws => by
    obtain ⟨a, b, c⟩ := bools_nice ws
    refine ⟨?_, ?_, ?_⟩
    · show (nice (.bool w) && niceAll (ws.map .bool)) = true
      rw [a]
      rfl
    · show max 0 (PyData.depthAll (ws.map .bool)) = 0
      rw [b]
      rfl
    · show 0 + 1 + PyData.weightAll (ws.map .bool) = ws.length + 1
      rw [c]
      omega
theorem weightAll_ivK : ∀ {l : List Nat}, (∀ n ∈ l, n < 10 ^ 12) → PyData.weightAll ((l.map Int.ofNat).map .int) ≤ 42 * l.length
  | [], _ => Nat.le_refl _
  | n :: l, h => by
    have a := weightAll_ivK (l := l) fun x m => h x (List.mem_cons_of_mem _ m)
    have b : (PyData.int (Int.ofNat n)).weight ≤ 41 := by
      simp only [PyData.weight]
      have hn := h n List.mem_cons_self
      by_cases z : n = 0
      · rw [z]
        decide
      · have : n.log2 < 40 := (Nat.log2_lt z).mpr (Nat.lt_of_lt_of_le hn (by decide))
        have e : (Int.ofNat n).natAbs = n := rfl
        rw [e]
        split <;> omega
    show (PyData.int (Int.ofNat n)).weight + 1 + PyData.weightAll ((l.map Int.ofNat).map .int) ≤ 42 * (l.length + 1)
    omega
theorem weight_ivK {l : List Nat} (hl : l.length ≤ 240) (h : ∀ n ∈ l, n < 10 ^ 12) : (PyData.list ((l.map Int.ofNat).map .int)).weight ≤ 2 ^ 20 := by
  have := weightAll_ivK h
  show PyData.weightAll _ ≤ 2 ^ 20
  omega
def sp_clauses_of (K : PySem.W.Frag) : Sp := fun vs H Q _ => ∃ (v : V) (q : Addr) (n : Nat) (cs : List (List (Nat × Nat))) (js : List Nat), vs = [v, .ref q] ∧ BookV K H v n cs ∧ SqT K H q (iv js) ∧ (∀ j ∈ js, j < cs.length) ∧ js.length ≤ 900 ∧
  ∀ H' w, Same H H' → BookV K H' w n (js.map fun j => cs.getD j []) → Q w H'
end Es
set_option Elab.async false
set_option linter.all false
set_option maxRecDepth 100000
set_option maxHeartbeats 4000000
namespace Es
open PySem PySem.Spec PyProof.Rows L2
def rMaxD (K : PySem.W.Frag) : List V → List V → Hp → VK → Prop := fun vs zs H Q => ∃ (a : Addr) (ns : List Int) (d : Int), vs = [.ref a] ∧ zs = [.int d] ∧ SqL K H a (ns.map V.int) ∧
  (ns = [] → Q (.int d) H) ∧ ∀ y ys, ns = y :: ys → Q (.int (ys.foldl (fun a y => if a < y then y else a) y)) H
theorem ints_readAll {h : Heap} : ∀ {ns : List Int} {us : List Value}, Vals (ns.map V.int) us → ∃ as, ReadsAll h us (ns.map PyData.int) as
  | [], _, .nil => ⟨_, .nil⟩
  | n :: ns, _, .cons r t => by
    obtain ⟨tk, rfl⟩ := r
    obtain ⟨as, q⟩ := ints_readAll (h := h) t
    exact ⟨_, .cons (.int n tk) q⟩
theorem cr_maxD {X : Cx} (hc : X.calm = true) (hu : X.A.units + 64 < cLine) : CallRK X (.builtin "max") [Str.ofString "default"] (rMaxD X.K) := by
  intro pins s σ H vs zs us ws Q I r rz h
  obtain ⟨a, ns, d, rfl, rfl, hs, q0, q1⟩ := h
  rw [Vals.ref1 r]
  obtain ⟨w1, rfl, t, rfl⟩ := vals1 rz
  obtain ⟨its, rv, pl, hz⟩ := I.list hs
  obtain ⟨as, rd⟩ := ints_readAll (h := s.heap) rv
  have HA : PySem.W.HoldAll s.heap its.toArray.toList ns := ⟨as, rd⟩
  have lt : ∀ x y : Int, PySem.W.DatumOrd.lt x y = decide (x < y) := fun x y => rfl
  refine PySem.W.max_list_datum_default (I.ok.hd hc) pl.isList HA (show X.A.units + 1 + 0 < cLine by omega) (fun e h' tk k => ⟨.int d, H, I.kept (t' := tk) k, ⟨t, rfl⟩, q0 e⟩) fun y ys i v h' tk e hv ho k => ?_
  obtain ⟨bs, rr⟩ := ho
  have ez : PySem.W.maxOf y ys = ys.foldl (fun a y => if a < y then y else a) y := by
    unfold PySem.W.maxOf
    congr 1
    funext a b
    rw [lt]
    by_cases c : a < b
    · rw [if_pos (decide_eq_true c), if_pos c]
    · rw [if_neg (fun z => c (of_decide_eq_true z)), if_neg c]
  rw [ez] at rr
  have rr : Reads h' v (.int (ys.foldl (fun a y => if a < y then y else a) y)) bs := rr
  cases rr with
  | int _ t2 => exact ⟨.int _, H, I.kept (t' := tk) k, ⟨t2, rfl⟩, q1 y ys e⟩
def lastU (ls : List (Nat × Nat)) : Int :=
  match ls.map fun l => (((bts l.1).getLast?.getD 0 : Nat) : Int) with
  | [] => -1
  | y :: ys => ys.foldl (fun a y => if a < y then y else a) y
def sp_last_unknown (K : PySem.W.Frag) : Sp := fun vs H Q _ => ∃ (v : V) (ls : List (Nat × Nat)), vs = [v] ∧ LinesV K H v ls ∧ (∀ l ∈ ls, bts l.1 ≠ []) ∧ ls.length ≤ 900 ∧ ∀ H', Same H H' → Q (.int (lastU ls)) H'
end Es
set_option Elab.async false
set_option linter.all false
set_option maxRecDepth 100000
set_option maxHeartbeats 4000000
namespace Es
open PySem PySem.Spec PyProof.Rows L2
theorem ps_no {X : Cx} {st : Stmt} : PS X st (fun _ _ _ => False) := ⟨fun _ _ _ _ _ _ h => h.elim⟩
theorem room65 {k : Nat} {A : Around} (r : Room k A) : A.units + 65 < cLine := by
  have := r.un
  omega
theorem pe_globI {X : Cx} {x : Str} {i : Int} {pos : Pos} (hg : Gl X x) (hm : ∃ t, X.mg x = some (.int i t)) (hd : (x == ("__debug__" : Str)) = false := by decide) : PE X (.Name x pos) (tC (.int i)) := by
  obtain ⟨t, h⟩ := hm
  exact pe_glob hg h ⟨t, rfl⟩ hd
def rInDT (K : PySem.W.Frag) : R2 := fun x y H Q => ∃ d ds, Dp K H x d ∧ Dp K H y (.tuple ds) ∧ SeqAt.shaped d = true ∧ SeqAt.shaped (.tuple ds) = true ∧ Q (.bl (ds.any fun z => PyData.eqv z d)) H
theorem op_inDT {X : Cx} (hu : X.A.units + 65 < cLine) : OpR X (compareOp .In) (rInDT X.K) := by
  intro pins s σ H x y v u Q I rx ry h
  obtain ⟨d, ds, hd, he, sd, se, q⟩ := h
  obtain ⟨as, r1⟩ := Dp.reads I d x v hd rx
  obtain ⟨bs, r2⟩ := Dp.reads I (.tuple ds) y u he ry
  exact SeqAt.in_tuple_reads r2 r1 (SeqAt.canLay_of_shaped se) (SeqAt.canLay_of_shaped sd) (room_in_shaped sd hu) ⟨.bl _, H, I, rfl, q⟩
def clsD (cs : List (List (Nat × Nat))) : List PyData := cs.map fun ls => .tuple (ls.map lineD)
theorem dpAll_cls {K : PySem.W.Frag} {H : Hp} : ∀ {us : List V} {cs : List (List (Nat × Nat))}, Paired (LinesV K H) us cs → DpAll K H us (clsD cs)
  | _, _, .nil => .nil
  | _, _, .cons h t => .cons (dp_linesV h) (dpAll_cls t)
theorem clsD_has {cs : List (List (Nat × Nat))} : ((clsD cs).any fun z => PyData.eqv z (.tuple [])) = cs.any List.isEmpty := by
  unfold clsD
  rw [List.any_map]
  congr 1
  funext ls
  cases ls with
  | nil => decide
  | cons l ls => rfl
theorem clsD_depth (cs : List (List (Nat × Nat))) : PyData.depthAll (clsD cs) ≤ 10 := by
  induction cs with
  | nil => decide
  | cons ls cs ih =>
    have a := depth_lines ls
    show max (PyData.depth (.tuple (ls.map lineD))) (PyData.depthAll (clsD cs)) ≤ 10
    have : PyData.depth (.tuple (ls.map lineD)) = PyData.depthAll (ls.map lineD) + 1 := by rw [PyData.depth]
    omega
theorem shaped_cls {cs : List (List (Nat × Nat))} (h : ∀ ls ∈ cs, ∀ l ∈ ls, l.2 < 2) : SeqAt.shaped (.tuple (clsD cs)) = true := by
  refine nice_shaped (niceAll_iff.mpr fun x hx => ?_) ?_
  · obtain ⟨ls, hl, rfl⟩ := List.mem_map.mp hx
    exact nice_lines (h ls hl)
  · have := clsD_depth cs
    rw [PyData.depth]
    omega
def modM (cs : List (List (Nat × Nat))) : Nat → List (List Nat)
  | 0 => if cs.any List.isEmpty then [] else [[]]
  | i + 1 => ((modM cs i).flatMap fun bs => [bs ++ [0], bs ++ [1]]).filter fun bs => (cs.filter fun ls => decide (lastU ls = (i : Int))).all (keptB bs)
theorem modM_len (cs : List (List (Nat × Nat))) : ∀ i, (modM cs i).length ≤ 2 ^ i
  | 0 => by
    unfold modM
    split <;> decide
  | i + 1 => by
    have := modM_len cs i
    unfold modM
    refine Nat.le_trans (List.length_filter_le _ _) ?_
    have e : ((modM cs i).flatMap fun bs => [bs ++ [0], bs ++ [1]]).length = 2 * (modM cs i).length := two_len _ _ _
    rw [e, Nat.pow_succ]
    omega
theorem modM_bits (cs : List (List (Nat × Nat))) : ∀ i, ∀ bs ∈ modM cs i, bs.length = i
  | 0, bs, h => by
    unfold modM at h
    split at h
    · cases h
    · rw [List.mem_singleton.mp h]
      rfl
  | i + 1, bs, h => by
    unfold modM at h
    obtain ⟨h, _⟩ := List.mem_filter.mp h
    obtain ⟨b, hb, h⟩ := List.mem_flatMap.mp h
    have := modM_bits cs i b hb
    rcases List.mem_cons.mp h with rfl | h
    · simp [this]
    · rw [List.mem_singleton.mp h]
      simp [this]
def BitT (K : PySem.W.Frag) (H : Hp) (v : V) (bs : List Nat) : Prop := ∃ b, v = .ref b ∧ SqT K H b (iv bs)
def sp_models_of (K : PySem.W.Frag) : Sp := fun vs H Q _ => ∃ (v : V) (n : Nat) (cs : List (List (Nat × Nat))), vs = [v] ∧ BookV K H v n cs ∧ n ≤ 12 ∧ (∀ ls ∈ cs, (∀ l ∈ ls, l.1 < 2 ^ n ∧ l.2 < 2 ∧ bts l.1 ≠ []) ∧ ls.length ≤ 900) ∧ cs.length ≤ 900 ∧
  ∀ H' p zs, Same H H' → H p = none → H' p = some (.lst zs) → Paired (BitT K H') zs (modM cs n) → Q (.ref p) H'
theorem same_free {G H : Hp} {p : Addr} (s : Same G H) (n : H p = none) : G p = none := by
  cases e : G p with
  | none => rfl
  | some o =>
    rw [s _ _ e] at n
    cases n
theorem begin_join {K : PySem.W.Frag} {b : Bool} {σ : L2.St} {H : Hp} {Q : VK} (h : ∀ H1 p zs, Same H H1 → H p = none → H1 p = some (.lst zs) → Paired (BitT K H1) zs (if b then [] else [[]]) → Q (.ref p) H1) :
    if b = true then tLst tNil σ H Q else tLst (tCons (tTup tNil) tNil) σ H Q := by
  cases b with
  | true =>
    rw [if_pos rfl]
    exact ⟨Nat.zero_le _, fun l nl => h _ l [] (same_new nl) nl upd_same .nil⟩
  | false =>
    rw [if_neg Bool.false_ne_true]
    refine ⟨Nat.zero_le _, fun e ne => ?_⟩
    have r1 := same_new (o := .tup []) ne
    refine ⟨(by show 1 ≤ sizeLine; decide), fun l nl => ?_⟩
    have r2 := same_new (o := .lst [V.ref e]) nl
    exact h _ l [.ref e] (r1.trans r2) (same_free r1 nl) upd_same (.cons ⟨e, rfl, .inl (.inl (r2 _ _ upd_same))⟩ .nil)
theorem foldMax_ge : ∀ (ys : List Int) (a : Int), a ≤ ys.foldl (fun a y => if a < y then y else a) a ∧ ∀ y ∈ ys, y ≤ ys.foldl (fun a y => if a < y then y else a) a
  | [], a => ⟨Int.le_refl _, fun y h => by cases h⟩
  | z :: ys, a => by
    obtain ⟨h1, h2⟩ := foldMax_ge ys (if a < z then z else a)
    rw [List.foldl_cons]
    refine ⟨Int.le_trans (by split <;> omega) h1, fun y h => ?_⟩
    rcases List.mem_cons.mp h with rfl | h
    · exact Int.le_trans (by split <;> omega) h1
    · exact h2 y h
theorem last_ge {l : List Nat} (h : l.Pairwise (· < ·)) {u : Nat} (m : u ∈ l) : u ≤ l.getLast?.getD 0 := by
  rcases List.eq_nil_or_concat l with e | ⟨q, z, e⟩
  · rw [e] at m
    cases m
  · have e : l = q ++ [z] := by simpa using e
    rw [e] at h m ⊢
    rw [List.getLast?_append]
    show u ≤ z
    rcases List.mem_append.mp m with m | m
    · exact Nat.le_of_lt ((List.pairwise_append.mp h).2.2 u m z List.mem_cons_self)
    · rw [List.mem_singleton.mp m]
      exact Nat.le_refl _
theorem lastU_ge {ls : List (Nat × Nat)} {l : Nat × Nat} (hl : l ∈ ls) {u : Nat} (hu : u ∈ bts l.1) : (u : Int) ≤ lastU ls := by
  have a : ((((bts l.1).getLast?.getD 0 : Nat)) : Int) ∈ ls.map fun l => (((bts l.1).getLast?.getD 0 : Nat) : Int) := List.mem_map.mpr ⟨l, hl, rfl⟩
  have b := last_ge (bts_lt l.1) hu
  unfold lastU
  generalize (ls.map fun l => (((bts l.1).getLast?.getD 0 : Nat) : Int)) = z at a
  cases z with
  | nil => cases a
  | cons y ys =>
    obtain ⟨h1, h2⟩ := foldMax_ge ys y
    show _ ≤ ys.foldl (fun a y => if a < y then y else a) y
    rcases List.mem_cons.mp a with e | m
    · omega
    · have := h2 _ m
      omega
theorem BitT.same {K : PySem.W.Frag} {H H' : Hp} {v : V} {bs : List Nat} (s : Same H H') (h : BitT K H v bs) : BitT K H' v bs := by
  obtain ⟨b, rfl, h⟩ := h
  exact ⟨b, rfl, sqT_same s h⟩
theorem BitT.but {K : PySem.W.Frag} {H H' : Hp} {v : V} {bs : List Nat} {b : Addr} {ys : List V} (hb : H b = some (.lst ys)) (s : But b H H') (h : BitT K H v bs) : BitT K H' v bs := by
  obtain ⟨a, rfl, h⟩ := h
  exact ⟨a, rfl, sqT_but hb s h⟩
end Es
set_option Elab.async false
set_option linter.all false
set_option maxRecDepth 100000
set_option maxHeartbeats 4000000
namespace Es
open PySem PySem.Spec PyProof.Rows L2
def Solv (ms : List Nat) : Prop := ∀ b : Nat → Bool, ∃ f : Nat → Bool, ∀ i m, ms[i]? = some m → par m f = b i
theorem Solv.ne {ms : List Nat} (h : Solv ms) {m : Nat} (hm : m ∈ ms) : m ≠ 0 := by
  rintro rfl
  obtain ⟨i, hi⟩ := List.getElem?_of_mem hm
  obtain ⟨f, hf⟩ := h fun _ => true
  have := hf i 0 hi
  rw [par_zero] at this
  cases this
theorem Solv.set {ms : List Nat} (h : Solv ms) {i j x y : Nat} (hi : ms[i]? = some x) (hj : ms[j]? = some y) (n : i ≠ j) : Solv (ms.set i (x ^^^ y)) := by
  intro b
  obtain ⟨f, hf⟩ := h fun k => if k = i then b i ^^ b j else b k
  refine ⟨f, fun k m hk => ?_⟩
  have hl : i < ms.length := (List.getElem?_eq_some_iff.mp hi).1
  by_cases z : k = i
  · subst z
    rw [List.getElem?_set_self hl] at hk
    have hk := Option.some.inj hk
    subst hk
    have h1 := hf k x hi
    have h2 := hf j y hj
    have h1 : par x f = if k = k then b k ^^ b j else b k := h1
    have h2 : par y f = if j = k then b k ^^ b j else b j := h2
    rw [if_pos rfl] at h1
    rw [if_neg (Ne.symm n)] at h2
    rw [par_xor, h1, h2]
    cases b k <;> cases b j <;> rfl
  · rw [List.getElem?_set_ne (Ne.symm z)] at hk
    have h1 := hf k m hk
    have h1 : par m f = if k = i then b i ^^ b j else b k := h1
    rw [if_neg z] at h1
    exact h1
theorem Solv.pair {ms : List Nat} (h : Solv ms) {i j x y : Nat} (hi : ms[i]? = some x) (hj : ms[j]? = some y) (n : i ≠ j) : x ^^^ y ≠ 0 :=
  (h.set hi hj n).ne (List.mem_of_getElem? (List.getElem?_set_self (List.getElem?_eq_some_iff.mp hi).1))
theorem canon_solv {hs : List (Nat × Nat × Nat)} (F : FlatOk hs) : Solv ((canon hs).map (·.1)) := by
  intro b
  have ks := srt_lt (hs.map (·.1))
  rw [← byHead_keys] at ks
  have pm := byHead_perm F.red
  obtain ⟨gs, eg⟩ : ∃ gs, gs = byHead hs := ⟨_, rfl⟩
  rw [← eg] at ks pm
  have memK : ∀ h, h ∈ gs.map (·.1) ↔ h ∈ hs.map (·.1) := fun h => (pm.map _).mem_iff
  have ndK : (gs.map (·.1)).Nodup := ks.imp fun z => Nat.ne_of_lt z
  obtain ⟨ws, ew⟩ : ∃ ws : List (Nat × Nat × Nat), ws = gs.mapIdx fun i e => (e.1, e.2.1, if b i = true then 1 else 0) := ⟨_, rfl⟩
  have wk : ws.map (·.1) = gs.map (·.1) := by
    rw [ew]
    refine List.ext_getElem? fun i => ?_
    simp only [List.getElem?_map, List.getElem?_mapIdx]
    cases gs[i]? <;> rfl
  have wm : ∀ e ∈ ws, ∃ g ∈ hs, g.1 = e.1 ∧ g.2.1 = e.2.1 ∧ e.2.2 < 2 := fun e he => by
    obtain ⟨i, hi⟩ := List.getElem?_of_mem he
    rw [ew, List.getElem?_mapIdx] at hi
    cases q : gs[i]? with
    | none => rw [q] at hi; cases hi
    | some g =>
      rw [q] at hi
      have hi := Option.some.inj hi
      subst hi
      refine ⟨g, pm.mem_iff.mp (List.mem_of_getElem? q), rfl, rfl, ?_⟩
      dsimp only
      split <;> decide
  have FW : FlatOk ws := by
    refine ⟨⟨by rw [wk]; exact ndK, fun e he => ?_, fun e he h hh n => ?_⟩, fun e he => ?_, fun e he => ?_⟩
    · obtain ⟨g, hg, e1, e2, _⟩ := wm e he
      rw [← e1, ← e2]
      exact F.red.own g hg
    · obtain ⟨g, hg, e1, e2, _⟩ := wm e he
      rw [wk, memK] at hh
      rw [← e2]
      exact F.red.oth g hg h hh (by rw [e1]; exact n)
    · obtain ⟨g, hg, e1, e2, _⟩ := wm e he
      rw [← e1, ← e2]
      exact F.least g hg
    · obtain ⟨g, hg, e1, e2, e3⟩ := wm e he
      exact e3
  obtain ⟨f, hf⟩ := flat_has FW
  refine ⟨f, fun i m hm => ?_⟩
  unfold canon at hm
  rw [← eg, List.getElem?_map, List.getElem?_map] at hm
  cases q : gs[i]? with
  | none => rw [q] at hm; cases hm
  | some g =>
    rw [q] at hm
    have hm := Option.some.inj hm
    subst hm
    have hw : ws[i]? = some (g.1, g.2.1, if b i = true then 1 else 0) := by rw [ew, List.getElem?_mapIdx, q]; rfl
    have := hf _ (List.mem_of_getElem? hw)
    unfold holdsL at this
    dsimp only at this
    rw [this]
    cases b i <;> rfl
def ClOkZ (n : Nat) (ls : List (Nat × Nat)) : Prop := (∀ l ∈ ls, l.1 < 2 ^ n ∧ l.1 ≠ 0 ∧ l.2 < 2) ∧ ls.length ≤ 7
def sp_law_spokenZ (K : PySem.W.Frag) : Sp := fun vs H Q _ => ∃ (b c : Addr) (v : V) (n : Nat) (ls : List (Nat × Nat)), vs = [.ref b, v] ∧ BagAt K H b c ∧ LinesV K H v ls ∧ (∀ l ∈ ls, l.1 < 2 ^ n ∧ l.2 < 2) ∧ Solv (ls.map (·.1)) ∧ ls.length ≤ 12 ∧ n ≤ 62 ∧
  ∀ H' u ks, But b H H' → BagAt K H' b c → LinesV K H' u ks → (∀ l ∈ ks, l.1 < 2 ^ n ∧ l.1 ≠ 0 ∧ l.2 < 2) → ks.length ≤ max ls.length 6 → Q u H'
def sp_law_any_bookZ (K : PySem.W.Frag) : Sp := fun vs H Q _ => ∃ (b c : Addr) (n k : Nat), vs = [.ref b, .int (n : Int), .int (k : Int)] ∧ BagAt K H b c ∧ n ≤ 62 ∧ k ≤ 57 ∧
  ∀ H' v cs, But b H H' → BagAt K H' b c → BookV K H' v n cs → (∀ ls ∈ cs, ClOkZ n ls) → cs.length ≤ k + 2 → Q v H'
def sp_law_chain_bookZ (K : PySem.W.Frag) : Sp := fun vs H Q _ => ∃ (b c : Addr) (n : Nat), vs = [.ref b, .int (n : Int)] ∧ BagAt K H b c ∧ 0 < n ∧ n ≤ 50 ∧
  ∀ H' v cs, But b H H' → BagAt K H' b c → BookV K H' v n cs → (∀ ls ∈ cs, ClOkZ n ls) → cs.length ≤ n + 3 → Q v H'
def sp_law_planted_bookZ (K : PySem.W.Frag) : Sp := fun vs H Q _ => ∃ (b c : Addr) (n k : Nat), vs = [.ref b, .int (n : Int), .int (k : Int)] ∧ BagAt K H b c ∧ n ≤ 62 ∧ k ≤ 60 ∧
  ∀ H' p v u cs, But b H H' → BagAt K H' b c → H' p = some (.tup [v, u]) → BookV K H' v n cs → (∀ ls ∈ cs, ClOkZ n ls) → cs.length ≤ k → Q (.ref p) H'
def sp_law_cover_bookZ (K : PySem.W.Frag) : Sp := fun vs H Q _ => ∃ (b c : Addr) (n k : Nat), vs = [.ref b, .int (n : Int), .int (k : Int)] ∧ BagAt K H b c ∧ 0 < n ∧ n ≤ 62 ∧ 0 < k ∧ k ≤ 50 ∧
  ∀ H' v cs, But b H H' → BagAt K H' b c → BookV K H' v n cs → (∀ ls ∈ cs, ClOkZ n ls) → 0 < cs.length → cs.length ≤ k → Q v H'
def sp_law_beside_bookZ (K : PySem.W.Frag) : Sp := fun vs H Q _ => ∃ (b c : Addr) (v u : V) (n m B : Nat) (cs ds : List (List (Nat × Nat))), vs = [.ref b, v, u] ∧ BagAt K H b c ∧ BookV K H v n cs ∧ (∀ ls ∈ cs, ClOkZ n ls) ∧ BookV K H u m ds ∧ (∀ ls ∈ ds, ClOkZ m ls) ∧ n + m ≤ 60 ∧ cs.length ≤ B ∧ ds.length ≤ B ∧ B ≤ 120 ∧
  ∀ H' w es, But b H H' → BagAt K H' b c → BookV K H' w (n + m) es → (∀ ls ∈ es, ClOkZ (n + m) ls) → es.length ≤ 2 * B → Q w H'
def sp_law_bookZ (K : PySem.W.Frag) : Sp := fun vs H Q _ => ∃ (b c : Addr) (n k : Nat), vs = [.ref b, .int (n : Int), .int (k : Int)] ∧ BagAt K H b c ∧ 0 < n ∧ n ≤ 48 ∧ 0 < k ∧ k ≤ 48 ∧
  ∀ H' v m cs, But b H H' → BagAt K H' b c → m ≤ n → BookV K H' v m cs → (∀ ls ∈ cs, ClOkZ m ls) → cs.length ≤ k + n + 3 → Q v H'
theorem rgV_nodup (n : Nat) : (rgV 0 (n : Int)).Nodup := by
  rw [rg_iv]
  unfold iv
  refine List.Pairwise.map _ (fun a b (h : a ≠ b) z => h ?_) (show List.Nodup (List.range n) from List.nodup_range)
  injection z with z
  omega
theorem msk_ne {l : List Nat} (nd : l.Nodup) (h : l ≠ []) : msk l ≠ 0 := by
  intro z
  cases l with
  | nil => exact h rfl
  | cons x r =>
    have := msk_bit nd x
    rw [z, Nat.zero_testBit, decide_eq_true List.mem_cons_self] at this
    cases this
theorem bts_ne {m n : Nat} (h : m < 2 ^ n) (hn : n ≤ 63) (z : m ≠ 0) : bts m ≠ [] := by
  intro e
  refine z (Nat.eq_of_testBit_eq fun j => ?_)
  rw [Nat.zero_testBit]
  cases q : m.testBit j with
  | false => rfl
  | true =>
    have : j ∈ bts m := mem_bts.mpr ⟨?_, q⟩
    · rw [e] at this
      cases this
    · refine Nat.lt_of_not_le fun w => ?_
      rw [Nat.testBit_lt_two_pow (Nat.lt_of_lt_of_le h (Nat.pow_le_pow_right (by decide) (by omega)))] at q
      cases q
end Es
set_option Elab.async false
set_option linter.all false
set_option maxRecDepth 100000
set_option maxHeartbeats 4000000
namespace Es
open PySem PySem.Spec PyProof.Rows L2
def sp_law_roomZ (K : PySem.W.Frag) : Sp := fun vs H Q _ => ∃ (n : Nat), vs = [.int (n : Int)] ∧ n ≤ 12 ∧ ∀ H' v, Same H H' → RoomV K H' v n → Q v H'
def sp_law_heldZ (K : PySem.W.Frag) : Sp := fun vs H Q _ => ∃ (v u : V) (n : Nat) (l : Nat × Nat), vs = [v, u] ∧ RoomV K H v n ∧ n ≤ 12 ∧ LineV K H u l ∧ l.1 < 2 ^ n ∧ l.2 < 2 ∧
  ∀ x, BitsOf (2 ^ n) x (fun s => holdsB l (fS n s)) → Q (.int (x : Int)) H
def sp_law_keptZ (K : PySem.W.Frag) : Sp := fun vs H Q _ => ∃ (v u : V) (n : Nat) (ls : List (Nat × Nat)), vs = [v, u] ∧ RoomV K H v n ∧ n ≤ 12 ∧ LinesV K H u ls ∧ (∀ l ∈ ls, l.1 < 2 ^ n ∧ l.2 < 2) ∧
  ∀ x, BitsOf (2 ^ n) x (fun s => ls.any fun l => holdsB l (fS n s)) → Q (.int (x : Int)) H
def sp_law_all_keptZ (K : PySem.W.Frag) : Sp := fun vs H Q _ => ∃ (v : V) (a : Addr) (us : List V) (n : Nat) (cs : List (List (Nat × Nat))), vs = [v, .ref a] ∧ RoomV K H v n ∧ n ≤ 12 ∧ SqT K H a us ∧ Paired (LinesV K H) us cs ∧ (∀ ls ∈ cs, ∀ l ∈ ls, l.1 < 2 ^ n ∧ l.2 < 2) ∧
  ∀ x, BitsOf (2 ^ n) x (fun s => cs.all fun ls => ls.any fun l => holdsB l (fS n s)) → Q (.int (x : Int)) H
def sp_law_bitsZ (K : PySem.W.Frag) : Sp := fun vs H Q _ => ∃ (v : V) (n s : Nat), vs = [v, .int (s : Int)] ∧ RoomV K H v n ∧ n ≤ 12 ∧
  ∀ H' t, Same H H' → H t = none → SqT K H' t (iv (bitsS n s)) → Q (.ref t) H'
def sp_law_leastZ (K : PySem.W.Frag) : Sp := fun vs H Q _ => ∃ (v : V) (n x : Nat), vs = [v, .int (x : Int)] ∧ RoomV K H v n ∧ n ≤ 12 ∧ (x = 0 → Q .non H) ∧
  (∀ s, x.testBit s = true → (∀ j, j < s → x.testBit j = false) → ∀ H' u, Same H H' → BitsV K n H' u s → Q u H')
def sp_law_listedZ (K : PySem.W.Frag) : Sp := fun vs H Q _ => ∃ (v : V) (n x : Nat), vs = [v, .int (x : Int)] ∧ RoomV K H v n ∧ n ≤ 12 ∧ x < 2 ^ 2 ^ n ∧
  ∀ H' p us, Same H H' → H p = none → H' p = some (.lst us) → Paired (BitsV K n H') us ((List.range (2 ^ n)).filter fun s => x.testBit s) → Q (.ref p) H'
def sp_law_inZ (K : PySem.W.Frag) : Sp := fun vs H Q _ => ∃ (v : V) (t : Addr) (us : List V) (n : Nat) (ls : List (Nat × Nat)), vs = [v, .ref t] ∧ RoomV K H v n ∧ n ≤ 12 ∧ SqT K H t us ∧ Paired (LineV K H) us ls ∧ (∀ l ∈ ls, l.1 < 2 ^ n ∧ l.2 < 2) ∧
  ∀ x, BitsOf (2 ^ n) x (fun s => ls.all fun l => holdsB l (fS n s)) → Q (.int (x : Int)) H
theorem small5000 {n : Nat} (h : n ≤ 5000) : n < sizeLine := Nat.lt_of_le_of_lt h (by show 5000 < sizeLine; decide)
end Es
set_option Elab.async false
set_option linter.all false
set_option maxRecDepth 100000
set_option maxHeartbeats 4000000
namespace Es
open PySem PySem.Spec PyProof.Rows L2
theorem range_two : ∀ N : Nat, List.range (2 * N) = (List.range N).flatMap fun s => [2 * s, 2 * s + 1]
  | 0 => rfl
  | N + 1 => by
    rw [show 2 * (N + 1) = 2 * N + 1 + 1 by omega, List.range_succ, List.range_succ, List.range_succ, List.flatMap_append, range_two N]
    simp
theorem bitsS_snoc {i s b : Nat} (hb : b < 2) : bitsS (i + 1) (2 * s + b) = bitsS i s ++ [b] := by
  unfold bitsS
  rw [List.range_succ, List.map_append]
  congr 1
  · refine List.map_congr_left fun u hu => ?_
    have hu := List.mem_range.mp hu
    rw [show i + 1 - 1 - u = (i - 1 - u) + 1 by omega, Nat.testBit_succ, show (2 * s + b) / 2 = s by omega]
  · rw [List.map_cons, List.map_nil, show i + 1 - 1 - i = 0 by omega, Nat.testBit_zero]
    have : b = 0 ∨ b = 1 := by omega
    rcases this with rfl | rfl
    · rw [show (2 * s + 0) % 2 = 0 by omega]; rfl
    · rw [show (2 * s + 1) % 2 = 1 by omega]; rfl
theorem wsum_app {m b : Nat} {bs : List Nat} (h : ∀ u ∈ bts m, u < bs.length) : wsum m (bs ++ [b]) = wsum m bs := by
  unfold wsum
  congr 1
  refine List.map_congr_left fun u hu => ?_
  rw [List.getD_eq_getElem?_getD, List.getD_eq_getElem?_getD, List.getElem?_append_left (h u hu)]
theorem keptB_app {b : Nat} {bs : List Nat} {ls : List (Nat × Nat)} (h : Reach bs ls) : keptB (bs ++ [b]) ls = keptB bs ls := by
  unfold keptB
  refine Bool.eq_iff_iff.mpr ?_
  simp only [List.any_eq_true]
  constructor
  · rintro ⟨l, hl, e⟩
    exact ⟨l, hl, by rwa [wsum_app (h l hl)] at e⟩
  · rintro ⟨l, hl, e⟩
    exact ⟨l, hl, by rwa [wsum_app (h l hl)]⟩
def modS (cs : List (List (Nat × Nat))) (i : Nat) : List Nat := (List.range (2 ^ i)).filter fun s => (cs.filter fun ls => decide (lastU ls < (i : Int))).all (keptB (bitsS i s))
theorem lastU_nil : lastU [] = -1 := rfl
theorem lastU_pos {ls : List (Nat × Nat)} (h : ls ≠ []) : 0 ≤ lastU ls := by
  cases ls with
  | nil => exact absurd rfl h
  | cons l r =>
    unfold lastU
    rw [List.map_cons]
    have := (foldMax_ge (r.map fun l => (((bts l.1).getLast?.getD 0 : Nat) : Int)) (((bts l.1).getLast?.getD 0 : Nat) : Int)).1
    show 0 ≤ List.foldl _ _ _
    omega
theorem mod_step {i : Nat} {Q : Nat → Bool} {P : List Nat → Bool} {R : Nat → Bool} (e0 : ∀ s, R (2 * s) = (Q s && P (bitsS i s ++ [0]))) (e1 : ∀ s, R (2 * s + 1) = (Q s && P (bitsS i s ++ [1]))) :
    ∀ L : List Nat, ((((L.filter Q).map (bitsS i)).flatMap fun bs => [bs ++ [0], bs ++ [1]]).filter P) = ((L.flatMap fun s => [2 * s, 2 * s + 1]).filter R).map (bitsS (i + 1))
  | [] => rfl
  | s :: L => by
    have ih := mod_step e0 e1 L
    have b0 : bitsS (i + 1) (2 * s) = bitsS i s ++ [0] := bitsS_snoc (b := 0) (by decide)
    have b1 : bitsS (i + 1) (2 * s + 1) = bitsS i s ++ [1] := bitsS_snoc (b := 1) (by decide)
    rw [List.flatMap_cons, List.filter_append, List.map_append, ← ih, List.filter_cons]
    cases q : Q s with
    | false =>
      rw [if_neg Bool.false_ne_true]
      have r0 : R (2 * s) = false := by rw [e0, q]; rfl
      have r1 : R (2 * s + 1) = false := by rw [e1, q]; rfl
      rw [List.filter_cons, List.filter_cons, r0, r1]
      rfl
    | true =>
      rw [if_pos rfl, List.map_cons, List.flatMap_cons, List.filter_append]
      congr 1
      have r0 : R (2 * s) = P (bitsS i s ++ [0]) := by rw [e0, q]; rfl
      have r1 : R (2 * s + 1) = P (bitsS i s ++ [1]) := by rw [e1, q]; rfl
      rw [List.filter_cons, List.filter_cons, List.filter_cons, List.filter_cons, r0, r1]
      cases P (bitsS i s ++ [0]) <;> cases P (bitsS i s ++ [1]) <;> simp [b0, b1]
theorem modM_eq (cs : List (List (Nat × Nat))) : ∀ i, modM cs i = (modS cs i).map (bitsS i)
  | 0 => by
    have e : modS cs 0 = if cs.any List.isEmpty then [] else [0] := by
      unfold modS
      rw [show (2 : Nat) ^ 0 = 1 from rfl, show List.range 1 = [0] from rfl, List.filter_cons]
      have q : (cs.filter fun ls => decide (lastU ls < ((0 : Nat) : Int))).all (keptB (bitsS 0 0)) = !(cs.any List.isEmpty) := by
        rw [Bool.eq_iff_iff, Bool.not_eq_true', List.all_eq_true, ← Bool.not_eq_true, List.any_eq_true]
        constructor
        · rintro h ⟨ls, hl, z⟩
          have z : ls = [] := List.isEmpty_iff.mp z
          subst z
          have := h [] (List.mem_filter.mpr ⟨hl, by decide⟩)
          cases this
        · intro h ls hl
          obtain ⟨h1, h2⟩ := List.mem_filter.mp hl
          have h2 := of_decide_eq_true h2
          refine absurd ⟨ls, h1, ?_⟩ h
          cases ls with
          | nil => rfl
          | cons l r =>
            have := lastU_pos (ls := l :: r) (by simp)
            omega
      rw [q]
      cases cs.any List.isEmpty <;> rfl
    rw [e]
    unfold modM
    cases cs.any List.isEmpty <;> rfl
  | i + 1 => by
    have ih := modM_eq cs i
    rw [show modM cs (i + 1) = ((modM cs i).flatMap fun bs => [bs ++ [0], bs ++ [1]]).filter fun bs => (cs.filter fun ls => decide (lastU ls = (i : Int))).all (keptB bs) from rfl, ih]
    unfold modS
    have key : ∀ s b : Nat, b < 2 → ((cs.filter fun ls => decide (lastU ls < ((i + 1 : Nat) : Int))).all (keptB (bitsS (i + 1) (2 * s + b)))) =
        (((cs.filter fun ls => decide (lastU ls < (i : Int))).all (keptB (bitsS i s))) && ((cs.filter fun ls => decide (lastU ls = (i : Int))).all (keptB (bitsS i s ++ [b])))) := by
      intro s b hb
      rw [bitsS_snoc hb]
      have re : ∀ ls, lastU ls < (i : Int) → Reach (bitsS i s) ls := fun ls h l hl u hu => by
        have := lastU_ge hl hu
        rw [bitsS_len]
        omega
      rw [Bool.eq_iff_iff, Bool.and_eq_true, List.all_eq_true, List.all_eq_true, List.all_eq_true]
      constructor
      · intro h
        refine ⟨fun ls hl => ?_, fun ls hl => ?_⟩
        · obtain ⟨h1, h2⟩ := List.mem_filter.mp hl
          have h2 := of_decide_eq_true h2
          rw [← keptB_app (b := b) (re ls h2)]
          exact h ls (List.mem_filter.mpr ⟨h1, decide_eq_true (by omega)⟩)
        · obtain ⟨h1, h2⟩ := List.mem_filter.mp hl
          have h2 := of_decide_eq_true h2
          exact h ls (List.mem_filter.mpr ⟨h1, decide_eq_true (by omega)⟩)
      · rintro ⟨h1, h2⟩ ls hl
        obtain ⟨g1, g2⟩ := List.mem_filter.mp hl
        have g2 := of_decide_eq_true g2
        by_cases z : lastU ls = (i : Int)
        · exact h2 ls (List.mem_filter.mpr ⟨g1, decide_eq_true z⟩)
        · have lt : lastU ls < (i : Int) := by omega
          rw [keptB_app (re ls lt)]
          exact h1 ls (List.mem_filter.mpr ⟨g1, decide_eq_true lt⟩)
    rw [show 2 ^ (i + 1) = 2 * 2 ^ i by rw [Nat.pow_succ]; omega, range_two]
    exact mod_step (R := fun t => (cs.filter fun ls => decide (lastU ls < ((i + 1 : Nat) : Int))).all (keptB (bitsS (i + 1) t))) (fun s => key s 0 (by decide)) (fun s => key s 1 (by decide)) _
theorem foldMax_le : ∀ (ys : List Int) (a B : Int), a < B → (∀ y ∈ ys, y < B) → ys.foldl (fun a y => if a < y then y else a) a < B
  | [], a, B, h, _ => h
  | z :: ys, a, B, h, k => by
    rw [List.foldl_cons]
    refine foldMax_le ys _ B ?_ fun y hy => k y (List.mem_cons_of_mem _ hy)
    have := k z List.mem_cons_self
    split <;> omega
theorem lastU_lt {n : Nat} {ls : List (Nat × Nat)} (h : ∀ l ∈ ls, l.1 < 2 ^ n ∧ bts l.1 ≠ []) : lastU ls < (n : Int) := by
  have one : ∀ l ∈ ls, ((((bts l.1).getLast?.getD 0 : Nat)) : Int) < (n : Int) := fun l hl => by
    obtain ⟨h1, h2⟩ := h l hl
    have : (bts l.1).getLast?.getD 0 ∈ bts l.1 := by
      rcases List.eq_nil_or_concat (bts l.1) with e | ⟨q, z, e⟩
      · exact absurd e h2
      · have e : bts l.1 = q ++ [z] := by simpa using e
        rw [e]
        simp
    have := bits_below h1 this
    omega
  unfold lastU
  cases ls with
  | nil => show (-1 : Int) < n; omega
  | cons l r =>
    rw [List.map_cons]
    show List.foldl _ _ _ < _
    refine foldMax_le _ _ _ (one l List.mem_cons_self) fun y hy => ?_
    obtain ⟨k, hk, rfl⟩ := List.mem_map.mp hy
    exact one k (List.mem_cons_of_mem _ hk)
theorem wsum_holds {n s : Nat} {l : Nat × Nat} (hl : l.1 < 2 ^ n) (h2 : l.2 < 2) : decide (wsum l.1 (bitsS n s) % 2 = l.2) = holdsB l (fS n s) := by
  have w := wsum_par l.1 (bitsS n s) (bitsS_lt n s)
  unfold holdsL at w
  have e : (fun u => decide ((bitsS n s).getD u 0 = 1)) = fS n s := funext (bitsS_getD n s)
  rw [e] at w
  dsimp only at w
  unfold holdsB
  rw [w]
  have a : wsum l.1 (bitsS n s) % 2 < 2 := Nat.mod_lt _ (by decide)
  generalize wsum l.1 (bitsS n s) % 2 = x at a
  generalize l.2 = y at h2
  have hx : x = 0 ∨ x = 1 := by omega
  have hy : y = 0 ∨ y = 1 := by omega
  rcases hx with rfl | rfl <;> rcases hy with rfl | rfl <;> rfl
theorem modM_all {n : Nat} {cs : List (List (Nat × Nat))} (ok : ∀ ls ∈ cs, ∀ l ∈ ls, l.1 < 2 ^ n ∧ l.2 < 2 ∧ bts l.1 ≠ []) :
    modM cs n = ((List.range (2 ^ n)).filter fun s => cs.all fun ls => ls.any fun l => holdsB l (fS n s)).map (bitsS n) := by
  rw [modM_eq]
  congr 1
  unfold modS
  have e : (cs.filter fun ls => decide (lastU ls < (n : Int))) = cs := List.filter_eq_self.mpr fun ls hl => decide_eq_true (lastU_lt fun l hm => ⟨(ok ls hl l hm).1, (ok ls hl l hm).2.2⟩)
  rw [e]
  refine List.filter_congr fun s _ => ?_
  rw [Bool.eq_iff_iff, List.all_eq_true, List.all_eq_true]
  have k : ∀ ls ∈ cs, keptB (bitsS n s) ls = ls.any fun l => holdsB l (fS n s) := fun ls hl => by
    unfold keptB
    rw [Bool.eq_iff_iff, List.any_eq_true, List.any_eq_true]
    constructor
    · rintro ⟨l, hm, z⟩
      exact ⟨l, hm, by rw [← wsum_holds (ok ls hl l hm).1 (ok ls hl l hm).2.1]; exact z⟩
    · rintro ⟨l, hm, z⟩
      exact ⟨l, hm, by rw [wsum_holds (ok ls hl l hm).1 (ok ls hl l hm).2.1]; exact z⟩
  constructor
  · intro h ls hl
    rw [← k ls hl]
    exact h ls hl
  · intro h ls hl
    rw [k ls hl]
    exact h ls hl
def modD (n : Nat) (cs : List (List (Nat × Nat))) : PyData := .list ((modM cs n).map fun bs => .tuple ((bs.map Int.ofNat).map .int))
theorem dp_modM {K : PySem.W.Frag} {H : Hp} : ∀ {us : List V} {bss : List (List Nat)}, Paired (BitT K H) us bss → DpAll K H us (bss.map fun bs => .tuple ((bs.map Int.ofNat).map .int))
  | _, _, .nil => .nil
  | _, _, .cons ⟨b, e, h⟩ t => by
    subst e
    rw [iv_ints] at h
    exact .cons (.tup h (dp_ints _)) (dp_modM t)
theorem bitsZ_facts {n : Nat} (n12 : n ≤ 12) : ∀ ss : List Nat, ss.length ≤ 4096 → nice (.list (ss.map (bitsD n))) = true ∧ (PyData.list (ss.map (bitsD n))).depth ≤ 40 ∧ (PyData.list (ss.map (bitsD n))).weight ≤ 2 ^ 20 := by
  have one : ∀ s, nice (bitsD n s) = true ∧ (bitsD n s).depth ≤ 1 ∧ (bitsD n s).weight ≤ 24 := fun s => by
    refine ⟨niceAll_iff.mpr fun x hx => ?_, ?_, ?_⟩
    · obtain ⟨i, hi, rfl⟩ := List.mem_map.mp hx
      obtain ⟨b, hb, rfl⟩ := List.mem_map.mp hi
      have := bitsS_lt n s b hb
      exact decide_eq_true (by show (b : Int).natAbs < 10 ^ 12; omega)
    · show PyData.depthAll _ + 1 ≤ 1
      rw [depth_ints]
      decide
    · show PyData.weightAll _ ≤ 24
      have := weight_ints (k := 1) (ns := (bitsS n s).map Int.ofNat) fun i hi => by
        obtain ⟨b, hb, rfl⟩ := List.mem_map.mp hi
        have := bitsS_lt n s b hb
        show (b : Int).natAbs < 2 ^ 1
        omega
      rw [List.length_map, bitsS_len] at this
      omega
  have dep : ∀ ss : List Nat, PyData.depthAll (ss.map (bitsD n)) ≤ 1 := by
    intro ss
    induction ss with
    | nil => exact Nat.zero_le _
    | cons s ss ih =>
      show max (bitsD n s).depth (PyData.depthAll (ss.map (bitsD n))) ≤ 1
      exact Nat.max_le.mpr ⟨(one s).2.1, ih⟩
  have wt : ∀ ss : List Nat, PyData.weightAll (ss.map (bitsD n)) ≤ 25 * ss.length := by
    intro ss
    induction ss with
    | nil => exact Nat.zero_le _
    | cons s ss ih =>
      have := (one s).2.2
      show (bitsD n s).weight + 1 + PyData.weightAll (ss.map (bitsD n)) ≤ 25 * (ss.length + 1)
      omega
  intro ss l
  refine ⟨niceAll_iff.mpr fun x hx => ?_, ?_, ?_⟩
  · obtain ⟨s, _, rfl⟩ := List.mem_map.mp hx
    exact (one s).1
  · have := dep ss
    show PyData.depthAll _ + 1 ≤ 40
    omega
  · have := wt ss
    show PyData.weightAll _ ≤ 2 ^ 20
    omega
theorem modD_is {n : Nat} {cs : List (List (Nat × Nat))} (ok : ∀ ls ∈ cs, ∀ l ∈ ls, l.1 < 2 ^ n ∧ l.2 < 2 ∧ bts l.1 ≠ []) {x : Nat} (hx : BitsOf (2 ^ n) x (fun s => cs.all fun ls => ls.any fun l => holdsB l (fS n s))) :
    (PyData.list (((List.range (2 ^ n)).filter fun s => x.testBit s).map (bitsD n))) = modD n cs := by
  unfold modD
  rw [modM_all ok, List.map_map]
  congr 1
  rw [List.filter_congr fun s hs => hx.2 s (List.mem_range.mp hs)]
  rfl
def sp_law_are_models_right (K : PySem.W.Frag) : Sp := fun vs H Q _ => ∃ (v : V) (n : Nat) (cs : List (List (Nat × Nat))), vs = [v] ∧ BookV K H v n cs ∧ n ≤ 12 ∧ (∀ ls ∈ cs, ClOkZ n ls) ∧ cs.length ≤ 900 ∧
  ∀ H', Same H H' → Q (.bl true) H'
end Es
set_option Elab.async false
set_option linter.all false
set_option maxRecDepth 100000
set_option maxHeartbeats 4000000
namespace Es
open PySem PySem.Spec PyProof.Rows L2
def bookD (n : Nat) (cs : List (List (Nat × Nat))) : PyData := .tuple [.int (n : Int), .tuple (clsD cs)]
theorem dp_bookD {K : PySem.W.Frag} {H : Hp} {v : V} {n : Nat} {cs : List (List (Nat × Nat))} (h : BookV K H v n cs) : Dp K H v (bookD n cs) := by
  obtain ⟨t, c, us, rfl, ht, hc, hP⟩ := h
  exact .tup ht (.cons (.int _) (.cons (.tup hc (dpAll_cls hP)) .nil))
theorem bookD_facts {n : Nat} (n12 : n ≤ 12) {cs : List (List (Nat × Nat))} (ok : ∀ ls ∈ cs, ClOkZ n ls) : nice (bookD n cs) = true ∧ (bookD n cs).depth ≤ 5 ∧ (bookD n cs).weight ≤ 45 + 617 * cs.length := by
  have one : ∀ ls ∈ cs, nice (.tuple (ls.map lineD)) = true ∧ (PyData.tuple (ls.map lineD)).depth ≤ 3 ∧ (PyData.tuple (ls.map lineD)).weight ≤ 616 := fun ls hl => by
    obtain ⟨a, b, c⟩ := linesT_facts n12 (ls := ls) fun l h => ⟨((ok ls hl).1 l h).1, ((ok ls hl).1 l h).2.2⟩
    have := (ok ls hl).2
    exact ⟨a, b, by omega⟩
  clear ok
  have dep : PyData.depthAll (clsD cs) ≤ 3 ∧ PyData.weightAll (clsD cs) ≤ 617 * cs.length := by
    induction cs with
    | nil => exact ⟨Nat.zero_le _, Nat.zero_le _⟩
    | cons ls cs ih =>
      obtain ⟨i1, i2⟩ := ih fun x h => one x (List.mem_cons_of_mem _ h)
      obtain ⟨_, b, c⟩ := one ls List.mem_cons_self
      refine ⟨Nat.max_le.mpr ⟨b, i1⟩, ?_⟩
      show (PyData.tuple (ls.map lineD)).weight + 1 + PyData.weightAll (clsD cs) ≤ 617 * (cs.length + 1)
      omega
  refine ⟨niceAll_iff.mpr fun x hx => ?_, ?_, ?_⟩
  · rcases List.mem_cons.mp hx with rfl | hx
    · exact decide_eq_true (by show (n : Int).natAbs < 10 ^ 12; omega)
    · rw [List.mem_singleton.mp hx]
      refine niceAll_iff.mpr fun y hy => ?_
      obtain ⟨ls, hl, rfl⟩ := List.mem_map.mp hy
      exact (one ls hl).1
  · have := dep.1
    show max 0 (max (PyData.depthAll (clsD cs) + 1) 0) + 1 ≤ 5
    omega
  · have w1 : PyData.weight (.int (n : Int)) ≤ 4 := weight_int (show n < 2 ^ 4 by omega)
    have := dep.2
    show PyData.weight (.int (n : Int)) + 1 + (PyData.weightAll (clsD cs) + 1 + 0) ≤ 45 + 617 * cs.length
    omega
theorem dp_books {K : PySem.W.Frag} {H : Hp} {n : Nat} : ∀ {us : List V} {css : List (List (List (Nat × Nat)))}, Paired (fun v cs => BookV K H v n cs) us css → DpAll K H us (css.map (bookD n))
  | _, _, .nil => .nil
  | _, _, .cons h t => .cons (dp_bookD h) (dp_books t)
theorem books_same {K : PySem.W.Frag} {H H' : Hp} {n : Nat} (s : Same H H') {us : List V} {css : List (List (List (Nat × Nat)))} (h : Paired (fun v cs => BookV K H v n cs) us css) : Paired (fun v cs => BookV K H' v n cs) us css := Paired.mono2 (fun _ _ z => BookV.same s z) h
theorem books_but {K : PySem.W.Frag} {H H' : Hp} {n : Nat} {b : Addr} {ys : List V} (hb : H b = some (.lst ys)) (s : But b H H') {us : List V} {css : List (List (List (Nat × Nat)))} (h : Paired (fun v cs => BookV K H v n cs) us css) : Paired (fun v cs => BookV K H' v n cs) us css := Paired.mono2 (fun _ _ z => BookV.but hb s z) h
def outC (cs : List (List (Nat × Nat))) (i : Nat) : List (List (Nat × Nat)) := cs.take i ++ cs.drop (i + 1)
def partsL (cs : List (List (Nat × Nat))) (js : List Nat) (kl : List (Nat × Nat)) (k : Nat) : List (List (List (Nat × Nat))) := [js.map fun j => cs.getD j [], cs ++ [kl]] ++ (List.range k).map (outC cs)
theorem partsL_snoc (cs : List (List (Nat × Nat))) (js : List Nat) (kl : List (Nat × Nat)) (k : Nat) : partsL cs js kl (k + 1) = partsL cs js kl k ++ [outC cs k] := by
  unfold partsL
  rw [List.range_succ, List.map_append, ← List.append_assoc]
  rfl
theorem partsL_facts {n : Nat} (n12 : n ≤ 12) {cs : List (List (Nat × Nat))} {js : List Nat} {kl : List (Nat × Nat)} (ok : ∀ ls ∈ cs, ClOkZ n ls) (okl : ClOkZ n kl) (lc : cs.length ≤ 25) (hj : ∀ j ∈ js, j < cs.length) (lj : js.length ≤ 25) :
    nice (.list ((partsL cs js kl cs.length).map (bookD n))) = true ∧ (PyData.list ((partsL cs js kl cs.length).map (bookD n))).depth ≤ 40 ∧ (PyData.list ((partsL cs js kl cs.length).map (bookD n))).weight ≤ 2 ^ 20 := by
  have all : ∀ x ∈ partsL cs js kl cs.length, (∀ ls ∈ x, ClOkZ n ls) ∧ x.length ≤ 26 := fun x hx => by
    unfold partsL at hx
    rcases List.mem_append.mp hx with hx | hx
    · rcases List.mem_cons.mp hx with rfl | hx
      · refine ⟨fun ls h => ?_, by rw [List.length_map]; omega⟩
        obtain ⟨j, hm, rfl⟩ := List.mem_map.mp h
        have := hj j hm
        rw [List.getD_eq_getElem?_getD, List.getElem?_eq_getElem this]
        exact ok _ (List.getElem_mem this)
      · rw [List.mem_singleton.mp hx]
        refine ⟨fun ls h => ?_, by rw [List.length_append, List.length_singleton]; omega⟩
        rcases List.mem_append.mp h with h | h
        · exact ok ls h
        · rw [List.mem_singleton.mp h]
          exact okl
    · obtain ⟨i, hi, rfl⟩ := List.mem_map.mp hx
      unfold outC
      refine ⟨fun ls h => ?_, ?_⟩
      · rcases List.mem_append.mp h with h | h
        · exact ok ls (List.mem_of_mem_take h)
        · exact ok ls (List.mem_of_mem_drop h)
      · rw [List.length_append, List.length_take, List.length_drop]
        omega
  have len : (partsL cs js kl cs.length).length ≤ 27 := by
    unfold partsL
    rw [List.length_append, List.length_map, List.length_range]
    show 2 + cs.length ≤ 27
    omega
  refine list_facts (k := 5) (w := 16087) (fun d hd => ?_) (by decide) ?_
  · obtain ⟨x, hx, rfl⟩ := List.mem_map.mp hd
    obtain ⟨a1, a2⟩ := all x hx
    obtain ⟨b1, b2, b3⟩ := bookD_facts n12 a1
    exact ⟨b1, b2, by omega⟩
  · rw [List.length_map]
    omega
def sp_law_are_parts_right (K : PySem.W.Frag) : Sp := fun vs H Q _ => ∃ (b c : Addr) (v : V) (n : Nat) (cs : List (List (Nat × Nat))), vs = [.ref b, v] ∧ BagAt K H b c ∧ BookV K H v n cs ∧ n ≤ 12 ∧ (∀ ls ∈ cs, ClOkZ n ls) ∧ cs.length ≤ 25 ∧
  ∀ H', But b H H' → BagAt K H' b c → Q (.bl true) H'
end Es
set_option Elab.async false
set_option linter.all false
set_option maxRecDepth 100000
set_option maxHeartbeats 4000000
namespace Es
open PySem PySem.Spec PyProof.Rows L2
theorem args_sumS (a v : Value) : argsOk "sum" ⟨[a], [(Str.ofString "start", v)]⟩ := by unfold argsOk; kernel_rfl
section
variable {prog : Program} {w : World} {A : Around} {E : Value → Shared → Prop} {s : Shared}
theorem walks_ahead {I : Addr} {fp wr : List Addr} {n : Nat} {P : Nat → Value → Prop} {St : Nat → Heap → Prop} (W : Walks prog w A I fp wr n P St) :
    Walks prog w A I fp wr (n + 1) (fun i v => match i with | 0 => False | j + 1 => P j v) (fun i h => match i with | 0 => False | j + 1 => St j h) where
  sub := W.sub
  frame := fun i h h' st hk => match i, st with | j + 1, st => W.frame j h h' st hk
  item := fun i s Q E hi st hQ => match i, st, hi, hQ with | j + 1, st, hi, hQ => W.item j s Q E (Nat.lt_of_succ_lt_succ hi) st hQ
  done := fun s Q E st hQ => W.done s Q E st hQ
  self := fun i s Q E st hQ => match i, st with | j + 1, st => W.self j s Q E st hQ
theorem preSum_ahead (val : Nat → Int) (d : Int) : ∀ n, preSum (fun i => match i with | 0 => d | j + 1 => val j) (n + 1) = d + preSum val n
  | 0 => by simp [preSum]
  | n + 1 => by
    show preSum (fun i => match i with | 0 => d | j + 1 => val j) (n + 1) + val n = d + (preSum val n + val n)
    rw [preSum_ahead val d n, Int.add_assoc]
theorem call_sumS {x : Value} {d : Int} {tk0 : Tok} {Q : Value → Shared → Prop}
    (h : wpAny (model prog w) A.in1 (pyIter x) (fun it s₂ => ∃ I fp wr n P St val, it = .ref I ∧ Walks prog w A.in1 I fp wr n P St ∧ St 0 s₂.heap ∧ (∀ b ∈ fp, b < s₂.heap.objs.size) ∧
      (∀ i v, P i v → ∃ t, v = .int (val i) t) ∧
      ∀ h' tk t', (∀ b o, b ∉ wr → s₂.heap.get? b = some o → h'.get? b = some o) → Q (.int (d + preSum val n) t') { s₂ with heap := h', toks := tk }) E s) :
    wpAny (model prog w) A (call (.builtin "sum") [x] [(Str.ofString "start", .int d tk0)]) Q E s := by
  refine PyProof.Rows.kmk_tree F.kind_sum F.plain_sum F.entry_sum (args_sumS _ _) ?_
  unfold Builtin.«sum»
  simp only [List.length_cons, List.length_nil]
  rw [if_neg (by decide)]
  refine wpAny_bind (wpAny_of_eq (show Builtin.Builtins.bindParams "sum" ["start"] 0 ⟨[], [(Str.ofString "start", .int d tk0)]⟩ = pure [some (.int d tk0)] from rfl) ?_)
  refine wpAny_bind (wpAny_mono h (fun it s₂ h₂ => ?_) fun _ _ e => e)
  obtain ⟨I, fp, wr, n, P, St, val, rfl, W, hst, hfp, hval, hQ⟩ := h₂
  have core : ∀ (t : Tok) (c : Int) (tk : Nat), (c = 0 ∨ c = 2) → wpAny (model prog w) A.in1 (do
      for (ty, what, hint) in [("str", "strings", "''"), ("bytes", "bytes", "b''"), ("bytearray", "bytearray", "b''")] do
        if ← isInstance (.int d t) (.type ty) then
          rule "sum.start-refused"; raiseError "TypeError" s!"sum() can't sum {what} [use {hint}.join(seq) instead]"
      again (.builtin "sum.loop" ⟨[.ref I, ← newList [.int d t], rawInt c, rawInt 0], []⟩) : Sem PySem.Fin) (fun fin s' => match fin with
        | .done f => (match (Except.ok f : Result) with | .ok (.ret v) => Q v s' | .ok _ => False | .error e => E e s')
        | .again c' => c'.quiet = true ∧ codeAny (model prog w) A c' (fun r s' => match r with | .ok (.ret v) => Q v s' | .ok _ => False | .error e => E e s') s') E { s₂ with toks := tk } := by
    intro t c tk hc
    simp only [List.forIn_cons, List.forIn_nil]
    refine wpAny_bind (wpAny_bind (wpAny_bind (wpAny_isInstance (T := "int") (b := false) (typeIs_int _ _ _) PySem.sub_int_str ?_)))
    simp only [Bool.false_eq_true, if_false]
    refine wpAny_pure (wpAny_bind (wpAny_bind (wpAny_isInstance (T := "int") (b := false) (typeIs_int _ _ _) PySem.sub_int_bytes ?_)))
    simp only [Bool.false_eq_true, if_false]
    refine wpAny_pure (wpAny_bind (wpAny_bind (wpAny_isInstance (T := "int") (b := false) (typeIs_int _ _ _) PySem.sub_int_bytearray ?_)))
    simp only [Bool.false_eq_true, if_false]
    refine wpAny_pure (wpAny_pure ?_)
    refine wpAny_bind (wpAny_newObj_type ?_)
    have free : s₂.heap.objs.size ∉ fp := fun hm => Nat.lt_irrefl _ (hfp _ hm)
    have W2 := walks_ahead W
    have hv2 : ∀ (i : Nat) (v : Value), (match i with | 0 => False | j + 1 => P j v) → ∃ t, v = .int ((fun i : Nat => match i with | 0 => d | j + 1 => val j) i) t := fun i v hp => match i, hp with | j + 1, hp => hval j v hp
    have st1 : St 0 (s₂.heap.push { cls := .type "list", data := .seq #[.int d t] 0 }) := W.frame _ _ _ hst fun b _ o e => Heap.get?_push_of_some _ e
    have p1 : preSum (fun i : Nat => match i with | 0 => d | j + 1 => val j) 1 = d := by simp [preSum]
    refine wpAny_pure ⟨plainId_quiet F.plain_sum_loop _, codeAny_sum_loopG W2 _ hv2 s₂.heap.objs.size free n 1 _ t 0 c hc (by omega) (by omega) st1 ?_ fun h' tk2 t' hk => ?_⟩
    · rw [p1]
      exact Heap.get?_push_size _ rfl
    · rw [preSum_ahead]
      exact hQ h' tk2 t' fun b o hbw e => hk b o hbw (Nat.ne_of_lt (Heap.lt_size e)) (Heap.get?_push_of_some _ e)
  dsimp only
  split
  · exact wpAny_bind (wpAny_rule (wpAny_bind (wpAny_mkInt (wpAny_bind (wpAny_pure (core _ 0 _ (.inl rfl)))))))
  · exact wpAny_bind (wpAny_pure (core _ 2 _ (.inr rfl)))
end
def rSumS (K : PySem.W.Frag) : List V → List V → Hp → VK → Prop := fun vs zs H Q => ∃ (a : Addr) (ns : List Int) (d : Int), vs = [.ref a] ∧ zs = [.int d] ∧ SqL K H a (ns.map V.int) ∧ Q (.int (d + ns.sum)) H
theorem cr_sumS {X : Cx} (hc : X.calm = true) : CallRK X (.builtin "sum") [Str.ofString "start"] (rSumS X.K) := by
  intro pins s σ H vs zs us ws Q I r rz h
  obtain ⟨a, ns, d, rfl, rfl, hs, q⟩ := h
  rw [Vals.ref1 r]
  obtain ⟨w1, rfl, t, rfl⟩ := vals1 rz
  obtain ⟨its, rv, pl, hz⟩ := I.list hs
  obtain ⟨xs, e⟩ := rv.ints.allInts.items
  have hn : numsOf (intItems xs).toList = ns := by rw [← e]; exact rv.ints.numsOf
  rw [nums_intItems] at hn
  have hl := pl.isList
  rw [e] at hl
  refine call_sumS (iter_intList hl fun s₂ e2 st hfp hlI => ?_)
  subst e2
  refine ⟨_, _, _, _, _, _, numAt xs, rfl, Walks.list (A := X.A.in1) (I.ok.hd hc) _ a hlI (intItems xs), st, hfp, (fun _ _ => intItems_at), fun h' tk t' hk => ?_⟩
  have es : preSum (numAt xs) (intItems xs).size = ns.sum := by
    have e3 : (intItems xs).size = xs.size := by simp [intItems]
    rw [e3, preSum_eq, List.take_of_length_le (by simp), hn]
  rw [es]
  exact ⟨.int _, H, I.kept (t' := tk) (old_kept hk), ⟨t', rfl⟩, q⟩
end Es
set_option Elab.async false
set_option linter.all false
set_option maxRecDepth 100000
set_option maxHeartbeats 4000000
namespace Es
open PySem PySem.Spec PyProof.Rows L2
theorem par_fxor (m : Nat) (f g : Nat → Bool) : par m (fun u => f u ^^ g u) = (par m f ^^ par m g) := by
  unfold par parL
  have go : ∀ (L : List Nat) (x y : Bool), L.foldl (fun b u => b ^^ (m.testBit u && (f u ^^ g u))) (x ^^ y) = (L.foldl (fun b u => b ^^ (m.testBit u && f u)) x ^^ L.foldl (fun b u => b ^^ (m.testBit u && g u)) y) := by
    intro L
    induction L with
    | nil => intro x y; rfl
    | cons u L ih =>
      intro x y
      rw [List.foldl_cons, List.foldl_cons, List.foldl_cons, ← ih]
      congr 1
      cases m.testBit u <;> cases f u <;> cases g u <;> cases x <;> cases y <;> rfl
  exact go _ false false
theorem par_on {m : Nat} {f g : Nat → Bool} (h : ∀ u, m.testBit u = true → f u = g u) : par m f = par m g := by
  unfold par parL
  have go : ∀ (L : List Nat) (b : Bool), L.foldl (fun b u => b ^^ (m.testBit u && f u)) b = L.foldl (fun b u => b ^^ (m.testBit u && g u)) b := by
    intro L
    induction L with
    | nil => intro b; rfl
    | cons u L ih =>
      intro b
      rw [List.foldl_cons, List.foldl_cons]
      have : (m.testBit u && f u) = (m.testBit u && g u) := by
        cases q : m.testBit u with
        | false => rfl
        | true => rw [h u q]
      rw [this]
      exact ih _
  exact go _ _
theorem par_delta {m u : Nat} (hu : u < 63) : par m (fun v => decide (v = u)) = m.testBit u := by
  rw [par_single (h := u) hu fun v n => by rw [decide_eq_false n, Bool.and_false]]
  rw [decide_eq_true rfl, Bool.and_true]
theorem pow_add_xor {m x : Nat} (h : m.testBit x = false) : m + 2 ^ x = m ^^^ 2 ^ x := by
  have p1 : 2 ^ (x + 1) = 2 * 2 ^ x := by rw [Nat.pow_succ]; omega
  have p0 : 0 < 2 ^ x := Nat.two_pow_pos x
  obtain ⟨q, r, em, hr⟩ : ∃ q r, m = 2 ^ (x + 1) * q + r ∧ r < 2 ^ x := by
    refine ⟨m / 2 ^ (x + 1), m % 2 ^ (x + 1), (Nat.div_add_mod _ _).symm, ?_⟩
    have lt : m % 2 ^ (x + 1) < 2 ^ (x + 1) := Nat.mod_lt _ (Nat.two_pow_pos _)
    have hb : (m % 2 ^ (x + 1)).testBit x = false := by rw [Nat.testBit_mod_two_pow, h, Bool.and_false]
    refine Nat.lt_of_not_le fun z => ?_
    have : (m % 2 ^ (x + 1)).testBit x = true := by
      rw [Nat.testBit_eq_decide_div_mod_eq]
      have : m % 2 ^ (x + 1) / 2 ^ x = 1 := Nat.div_eq_of_lt_le (by omega) (by omega)
      rw [this]
      rfl
    rw [hb] at this
    cases this
  refine Nat.eq_of_testBit_eq fun j => ?_
  rw [Nat.testBit_xor, Nat.testBit_two_pow]
  have e2 : m + 2 ^ x = 2 ^ (x + 1) * q + (2 ^ x + r) := by omega
  rw [e2, em, Nat.testBit_two_pow_mul_add q (by omega) j, Nat.testBit_two_pow_mul_add q (by omega) j]
  by_cases hj : j < x + 1
  · rw [if_pos hj, if_pos hj]
    by_cases e : j = x
    · subst e
      rw [Nat.testBit_two_pow_add_eq, decide_eq_true rfl]
      cases r.testBit j <;> rfl
    · rw [Nat.testBit_two_pow_add_gt (by omega), decide_eq_false (Ne.symm e), Bool.xor_false]
  · rw [if_neg hj, if_neg hj, decide_eq_false (by omega), Bool.xor_false]
theorem msk_cons {x : Nat} {l : List Nat} (nd : (x :: l).Nodup) : msk (x :: l) = msk l ^^^ 2 ^ x := by
  obtain ⟨h1, h2⟩ := List.nodup_cons.mp nd
  refine Nat.eq_of_testBit_eq fun j => ?_
  rw [Nat.testBit_xor, msk_bit nd, msk_bit h2, Nat.testBit_two_pow]
  by_cases e : x = j
  · subst e
    rw [decide_eq_true List.mem_cons_self, decide_eq_false h1, decide_eq_true rfl]
    rfl
  · rw [decide_eq_false (p := x = j) e, Bool.xor_false, decide_eq_decide]
    simp [Ne.symm e]
theorem sum_msk : ∀ {l : List Nat}, l.Nodup → (l.map (2 ^ ·)).sum = msk l
  | [], _ => rfl
  | x :: l, nd => by
    obtain ⟨h1, h2⟩ := List.nodup_cons.mp nd
    rw [List.map_cons, List.sum_cons, sum_msk h2, msk_cons nd, Nat.add_comm, pow_add_xor (by rw [msk_bit h2]; exact decide_eq_false h1)]
def ex (n v : Nat) : Nat := n - 1 - v
theorem fS_eq {n s v : Nat} (hv : v < n) : fS n s v = s.testBit (ex n v) := by
  unfold fS ex
  rw [decide_eq_true hv, Bool.true_and]
theorem fS_out {n s v : Nat} (hv : ¬ v < n) : fS n s v = false := by
  unfold fS
  rw [decide_eq_false hv, Bool.false_and]
theorem fS_ext {n s t : Nat} (hs : s < 2 ^ n) (ht : t < 2 ^ n) (h : ∀ v, v < n → fS n s v = fS n t v) : s = t := by
  refine Nat.eq_of_testBit_eq fun j => ?_
  by_cases hj : j < n
  · have := h (n - 1 - j) (by omega)
    rw [fS_eq (by omega), fS_eq (by omega)] at this
    unfold ex at this
    rwa [show n - 1 - (n - 1 - j) = j by omega] at this
  · have up : ∀ {x}, x < 2 ^ n → x.testBit j = false := fun hx => Nat.testBit_lt_two_pow (Nat.lt_of_lt_of_le hx (Nat.pow_le_pow_right (by decide) (Nat.le_of_not_lt hj)))
    rw [up hs, up ht]
theorem ex_nodup {n : Nat} {l : List Nat} (nd : l.Nodup) (h : ∀ v ∈ l, v < n) : (l.map (ex n)).Nodup := by
  induction l with
  | nil => exact List.nodup_nil
  | cons x l ih =>
    obtain ⟨h1, h2⟩ := List.nodup_cons.mp nd
    rw [List.map_cons, List.nodup_cons]
    refine ⟨fun z => ?_, ih h2 fun v hv => h v (List.mem_cons_of_mem _ hv)⟩
    obtain ⟨y, hy, e⟩ := List.mem_map.mp z
    have a := h x List.mem_cons_self
    have b := h y (List.mem_cons_of_mem _ hy)
    unfold ex at e
    have : y = x := by omega
    subst this
    exact h1 hy
theorem fS_msk {n : Nat} {l : List Nat} (nd : l.Nodup) (h : ∀ v ∈ l, v < n) (v : Nat) : fS n (msk (l.map (ex n))) v = decide (v ∈ l) := by
  by_cases hv : v < n
  · rw [fS_eq hv, msk_bit (ex_nodup nd h), decide_eq_decide]
    constructor
    · intro z
      obtain ⟨y, hy, e⟩ := List.mem_map.mp z
      have b := h y hy
      unfold ex at e
      have : y = v := by omega
      subst this
      exact hy
    · exact fun z => List.mem_map.mpr ⟨v, z, rfl⟩
  · rw [fS_out hv]
    exact (decide_eq_false fun z => hv (h v z)).symm
theorem msk_ex_lt {n : Nat} {l : List Nat} (nd : l.Nodup) (h : ∀ v ∈ l, v < n) : msk (l.map (ex n)) < 2 ^ n := by
  refine msk_lt (ex_nodup nd h) fun u hu => ?_
  obtain ⟨y, hy, rfl⟩ := List.mem_map.mp hu
  have := h y hy
  unfold ex
  omega
theorem fS_xor (n s t v : Nat) : fS n (s ^^^ t) v = (fS n s v ^^ fS n t v) := by
  by_cases hv : v < n
  · rw [fS_eq hv, fS_eq hv, fS_eq hv, Nat.testBit_xor]
  · rw [fS_out hv, fS_out hv, fS_out hv]
    rfl
def oneH (hs : List (Nat × Nat × Nat)) : List Nat := ((byHead hs).filter fun e => decide (e.2.2 ≠ 0)).map (·.1)
def tiedH (hs : List (Nat × Nat × Nat)) (u : Nat) : List Nat := ((byHead hs).filter fun e => e.2.1.testBit u).map (·.1)
section
variable {n : Nat} {hs : List (Nat × Nat × Nat)}
theorem oneH_nodup (F : FlatOk hs) : (oneH hs).Nodup := by
  have ks := srt_lt (hs.map (·.1))
  rw [← byHead_keys] at ks
  exact (ks.imp fun z => Nat.ne_of_lt z : ((byHead hs).map (·.1)).Nodup).sublist (List.Sublist.map _ List.filter_sublist)
theorem tiedH_nodup (F : FlatOk hs) (u : Nat) : (tiedH hs u).Nodup := by
  have ks := srt_lt (hs.map (·.1))
  rw [← byHead_keys] at ks
  exact (ks.imp fun z => Nat.ne_of_lt z : ((byHead hs).map (·.1)).Nodup).sublist (List.Sublist.map _ List.filter_sublist)
theorem mem_oneH (F : FlatOk hs) {v : Nat} : v ∈ oneH hs ↔ ∃ e ∈ hs, e.1 = v ∧ e.2.2 = 1 := by
  unfold oneH
  rw [List.mem_map]
  constructor
  · rintro ⟨e, he, rfl⟩
    obtain ⟨h1, h2⟩ := List.mem_filter.mp he
    have h1 := (byHead_perm F.red).mem_iff.mp h1
    have := F.bit e h1
    have := of_decide_eq_true h2
    exact ⟨e, h1, rfl, by omega⟩
  · rintro ⟨e, he, rfl, h⟩
    exact ⟨e, List.mem_filter.mpr ⟨(byHead_perm F.red).mem_iff.mpr he, decide_eq_true (by rw [h]; decide)⟩, rfl⟩
theorem mem_tiedH (F : FlatOk hs) {u v : Nat} : v ∈ tiedH hs u ↔ ∃ e ∈ hs, e.1 = v ∧ e.2.1.testBit u = true := by
  unfold tiedH
  rw [List.mem_map]
  constructor
  · rintro ⟨e, he, rfl⟩
    obtain ⟨h1, h2⟩ := List.mem_filter.mp he
    exact ⟨e, (byHead_perm F.red).mem_iff.mp h1, rfl, h2⟩
  · rintro ⟨e, he, rfl, h⟩
    exact ⟨e, List.mem_filter.mpr ⟨(byHead_perm F.red).mem_iff.mpr he, h⟩, rfl⟩
theorem head_lt (F : FlatOk hs) (hlt : ∀ e ∈ hs, e.2.1 < 2 ^ n) {e : Nat × Nat × Nat} (he : e ∈ hs) : e.1 < n := by
  have := (F.red.own e he).2.2
  refine Nat.lt_of_not_le fun z => ?_
  rw [Nat.testBit_lt_two_pow (Nat.lt_of_lt_of_le (hlt e he) (Nat.pow_le_pow_right (by decide) z))] at this
  cases this
theorem head_uniq (F : FlatOk hs) {e g : Nat × Nat × Nat} (he : e ∈ hs) (hg : g ∈ hs) (h : e.1 = g.1) : e = g := by
  have a := look_nd F.red.nd he
  have b := look_nd F.red.nd hg
  rw [h, b] at a
  obtain ⟨e1, e2⟩ := e
  obtain ⟨g1, g2⟩ := g
  simp only at h a
  rw [h, Option.some.inj a]
theorem inF_iff (F : FlatOk hs) (s : Nat) : inF n hs s = true ↔ ∀ e ∈ hs, par e.2.1 (fS n s) = decide (e.2.2 = 1) := by
  unfold inF
  rw [all_canon F]
  exact Iff.rfl
def plZ (n : Nat) (hs : List (Nat × Nat × Nat)) : Nat := msk ((oneH hs).map (ex n))
def turnT (n : Nat) (hs : List (Nat × Nat × Nat)) (u : Nat) : Nat := msk ((u :: tiedH hs u).map (ex n))
theorem oneH_lt (F : FlatOk hs) (hlt : ∀ e ∈ hs, e.2.1 < 2 ^ n) : ∀ v ∈ oneH hs, v < n := fun v hv => by
  obtain ⟨e, he, rfl, _⟩ := (mem_oneH F).mp hv
  exact head_lt F hlt he
theorem tied_lt (F : FlatOk hs) (hlt : ∀ e ∈ hs, e.2.1 < 2 ^ n) {u : Nat} (hu : u < n) : ∀ v ∈ u :: tiedH hs u, v < n := fun v hv => by
  rcases List.mem_cons.mp hv with rfl | hv
  · exact hu
  · obtain ⟨e, he, rfl, _⟩ := (mem_tiedH F).mp hv
    exact head_lt F hlt he
theorem tied_nodup (F : FlatOk hs) {u : Nat} (free : u ∉ hs.map (·.1)) : (u :: tiedH hs u).Nodup := by
  refine List.nodup_cons.mpr ⟨fun z => ?_, tiedH_nodup F u⟩
  obtain ⟨e, he, e1, _⟩ := (mem_tiedH F).mp z
  exact free (List.mem_map.mpr ⟨e, he, e1⟩)
theorem row_at (F : FlatOk hs) {e : Nat × Nat × Nat} (he : e ∈ hs) {v : Nat} (hv : e.2.1.testBit v = true) : v = e.1 ∨ v ∉ hs.map (·.1) := by
  by_cases z : v = e.1
  · exact .inl z
  · refine .inr fun m => ?_
    rw [F.red.oth e he v m z] at hv
    cases hv
theorem plZ_in (F : FlatOk hs) (hlt : ∀ e ∈ hs, e.2.1 < 2 ^ n) : plZ n hs < 2 ^ n ∧ inF n hs (plZ n hs) = true ∧ ∀ u, u ∉ hs.map (·.1) → fS n (plZ n hs) u = false := by
  have f := fS_msk (oneH_nodup F) (oneH_lt F hlt)
  refine ⟨msk_ex_lt (oneH_nodup F) (oneH_lt F hlt), (inF_iff F _).mpr fun e he => ?_, fun u hu => ?_⟩
  · obtain ⟨o1, o2, o3⟩ := F.red.own e he
    have g : ∀ v, e.2.1.testBit v = true → fS n (plZ n hs) v = (decide (e.2.2 = 1) && decide (v = e.1)) := fun v hv => by
      unfold plZ
      rw [f v]
      rcases row_at F he hv with z | z
      · rw [z, decide_eq_true (p := e.1 = e.1) rfl, Bool.and_true, decide_eq_decide, mem_oneH F]
        exact ⟨fun ⟨g, hg, e1, e2⟩ => by rw [← head_uniq F hg he e1]; exact e2, fun h => ⟨e, he, rfl, h⟩⟩
      · have nv : v ≠ e.1 := fun w => z (List.mem_map.mpr ⟨e, he, w.symm⟩)
        rw [decide_eq_false (p := v = e.1) nv, Bool.and_false]
        refine decide_eq_false fun w => z ?_
        obtain ⟨g, hg, e1, _⟩ := (mem_oneH F).mp w
        exact List.mem_map.mpr ⟨g, hg, e1⟩
    rw [par_on g]
    cases decide (e.2.2 = 1) with
    | false =>
      rw [show (fun v => (false && decide (v = e.1))) = fun _ => false from funext fun _ => Bool.false_and _]
      rw [par_single (h := 0) (by decide) fun _ _ => Bool.and_false _, Bool.and_false]
    | true =>
      rw [show (fun v => (true && decide (v = e.1))) = fun v => decide (v = e.1) from funext fun _ => Bool.true_and _, par_delta o1]
      exact o3
  · unfold plZ
    rw [f u]
    refine decide_eq_false fun w => hu ?_
    obtain ⟨g, hg, e1, _⟩ := (mem_oneH F).mp w
    exact List.mem_map.mpr ⟨g, hg, e1⟩
theorem turn_in (F : FlatOk hs) (hlt : ∀ e ∈ hs, e.2.1 < 2 ^ n) {u : Nat} (hu : u < n) (n62 : n ≤ 62) (free : u ∉ hs.map (·.1)) : turnT n hs u < 2 ^ n ∧ (∀ s, inF n hs (s ^^^ turnT n hs u) = inF n hs s) ∧
    ∀ s v, v ∉ hs.map (·.1) → fS n (s ^^^ turnT n hs u) v = (fS n s v ^^ decide (v = u)) := by
  have f := fS_msk (tied_nodup F free) (tied_lt F hlt hu)
  refine ⟨msk_ex_lt (tied_nodup F free) (tied_lt F hlt hu), fun s => ?_, fun s v hv => ?_⟩
  · have same : ∀ e ∈ hs, par e.2.1 (fS n (s ^^^ turnT n hs u)) = par e.2.1 (fS n s) := fun e he => by
      obtain ⟨o1, o2, o3⟩ := F.red.own e he
      rw [show fS n (s ^^^ turnT n hs u) = fun v => fS n s v ^^ fS n (turnT n hs u) v from funext fun v => fS_xor n s _ v, par_fxor]
      have g : ∀ v, e.2.1.testBit v = true → fS n (turnT n hs u) v = (decide (v = u) ^^ (e.2.1.testBit u && decide (v = e.1))) := fun v hv => by
        unfold turnT
        rw [f v]
        rcases row_at F he hv with z | z
        · have nu : v ≠ u := fun w => free (by rw [← w, z]; exact List.mem_map.mpr ⟨e, he, rfl⟩)
          rw [decide_eq_false (p := v = u) nu, Bool.false_xor, z, decide_eq_true (p := e.1 = e.1) rfl, Bool.and_true]
          have : (e.1 ∈ u :: tiedH hs u) ↔ e.2.1.testBit u = true := by
            rw [List.mem_cons, mem_tiedH F]
            constructor
            · rintro (w | ⟨g, hg, e1, e2⟩)
              · exact absurd (z.trans w) nu
              · rw [← head_uniq F hg he e1]; exact e2
            · exact fun w => .inr ⟨e, he, rfl, w⟩
          cases q : e.2.1.testBit u with
          | true => exact decide_eq_true (this.mpr q)
          | false => exact decide_eq_false fun w => by rw [this.mp w] at q; cases q
        · have nv : v ≠ e.1 := fun w => z (List.mem_map.mpr ⟨e, he, w.symm⟩)
          rw [decide_eq_false (p := v = e.1) nv, Bool.and_false, Bool.xor_false, decide_eq_decide, List.mem_cons]
          refine ⟨fun w => w.resolve_right fun w => z ?_, .inl⟩
          obtain ⟨g, hg, e1, _⟩ := (mem_tiedH F).mp w
          exact List.mem_map.mpr ⟨g, hg, e1⟩
      rw [par_on g, par_fxor, par_delta (by omega)]
      cases q : e.2.1.testBit u with
      | false =>
        rw [show (fun v => (false && decide (v = e.1))) = fun _ => false from funext fun _ => Bool.false_and _]
        rw [par_single (h := 0) (by decide) fun _ _ => Bool.and_false _, Bool.and_false, Bool.xor_false, Bool.xor_false]
      | true =>
        rw [show (fun v => (true && decide (v = e.1))) = fun v => decide (v = e.1) from funext fun _ => Bool.true_and _, par_delta o1, o3]
        cases par e.2.1 (fS n s) <;> rfl
    rw [Bool.eq_iff_iff, inF_iff F, inF_iff F]
    exact ⟨fun h e he => by rw [← same e he]; exact h e he, fun h e he => by rw [same e he]; exact h e he⟩
  · rw [fS_xor]
    congr 1
    unfold turnT
    rw [f v, decide_eq_decide, List.mem_cons]
    refine ⟨fun w => w.resolve_right fun w => hv ?_, .inl⟩
    obtain ⟨g, hg, e1, _⟩ := (mem_tiedH F).mp w
    exact List.mem_map.mpr ⟨g, hg, e1⟩
def plK (n : Nat) (hs : List (Nat × Nat × Nat)) : Nat → List Nat
  | 0 => [plZ n hs]
  | k + 1 => if k ∈ hs.map (·.1) then plK n hs k else plK n hs k ++ (plK n hs k).map (· ^^^ turnT n hs k)
theorem plK_len (n : Nat) (hs : List (Nat × Nat × Nat)) : ∀ k, (plK n hs k).length ≤ 2 ^ k
  | 0 => Nat.le_refl _
  | k + 1 => by
    have := plK_len n hs k
    have p1 : 2 ^ (k + 1) = 2 * 2 ^ k := by rw [Nat.pow_succ]; omega
    unfold plK
    split
    · omega
    · rw [List.length_append, List.length_map]
      omega
theorem plK_mem (F : FlatOk hs) (hlt : ∀ e ∈ hs, e.2.1 < 2 ^ n) (n62 : n ≤ 62) : ∀ k, k ≤ n → (plK n hs k).Nodup ∧ ∀ s, s ∈ plK n hs k ↔ s < 2 ^ n ∧ inF n hs s = true ∧ ∀ u, k ≤ u → u ∉ hs.map (·.1) → fS n s u = false
  | 0, _ => by
    obtain ⟨z1, z2, z3⟩ := plZ_in F hlt
    refine ⟨List.nodup_cons.mpr ⟨List.not_mem_nil, List.nodup_nil⟩, fun s => ?_⟩
    unfold plK
    rw [List.mem_singleton]
    constructor
    · rintro rfl
      exact ⟨z1, z2, fun u _ hu => z3 u hu⟩
    · rintro ⟨h1, h2, h3⟩
      refine fS_ext h1 z1 fun v hv => ?_
      by_cases m : v ∈ hs.map (·.1)
      · obtain ⟨e, he, rfl⟩ := List.mem_map.mp m
        obtain ⟨o1, o2, o3⟩ := F.red.own e he
        have one : ∀ {t}, inF n hs t = true → (∀ u, u ∉ hs.map (·.1) → fS n t u = false) → fS n t e.1 = decide (e.2.2 = 1) := fun {t} ht hz => by
          rw [← (inF_iff F t).mp ht e he, par_single (h := e.1) o1 fun w hw => ?_, o3, Bool.true_and]
          cases q : e.2.1.testBit w with
          | false => rfl
          | true => exact hz w ((row_at F he q).resolve_left hw)
        rw [one h2 fun u hu => h3 u (Nat.zero_le _) hu, one z2 z3]
      · rw [h3 v (Nat.zero_le _) m, z3 v m]
  | k + 1, hk => by
    obtain ⟨nd, mem⟩ := plK_mem F hlt n62 k (by omega)
    unfold plK
    by_cases m : k ∈ hs.map (·.1)
    · rw [if_pos m]
      refine ⟨nd, fun s => (mem s).trans ⟨fun ⟨a, b, c⟩ => ⟨a, b, fun u hu => c u (by omega)⟩, fun ⟨a, b, c⟩ => ⟨a, b, fun u hu fr => ?_⟩⟩⟩
      by_cases e : u = k
      · exact absurd (e ▸ m) fr
      · exact c u (by omega) fr
    · rw [if_neg m]
      obtain ⟨t1, t2, t3⟩ := turn_in F hlt (show k < n by omega) n62 m
      have zk : ∀ {s}, s ∈ plK n hs k → fS n s k = false := fun h => ((mem _).mp h).2.2 k (Nat.le_refl _) m
      have back : ∀ s, (s ^^^ turnT n hs k) ^^^ turnT n hs k = s := fun s => by rw [Nat.xor_assoc, Nat.xor_self, Nat.xor_zero]
      refine ⟨List.nodup_append.mpr ⟨nd, ?_, ?_⟩, fun s => ?_⟩
      · refine List.Pairwise.map _ (fun a b (h : a ≠ b) z => h ?_) nd
        rw [← back a, z, back]
      · intro a ha b hb z
        obtain ⟨c, hc, rfl⟩ := List.mem_map.mp hb
        have h1 := zk ha
        rw [z, t3 c k m, zk hc, decide_eq_true rfl] at h1
        cases h1
      · rw [List.mem_append, List.mem_map]
        constructor
        · rintro (h | ⟨c, hc, rfl⟩)
          · obtain ⟨a, b, c⟩ := (mem s).mp h
            exact ⟨a, b, fun u hu => c u (by omega)⟩
          · obtain ⟨a, b, d⟩ := (mem c).mp hc
            refine ⟨Nat.xor_lt_two_pow a t1, by rw [t2]; exact b, fun u hu fr => ?_⟩
            rw [t3 c u fr, d u (by omega) fr, decide_eq_false (by omega)]
            rfl
        · rintro ⟨a, b, c⟩
          cases q : fS n s k with
          | false =>
            refine .inl ((mem s).mpr ⟨a, b, fun u hu fr => ?_⟩)
            by_cases e : u = k
            · rw [e]; exact q
            · exact c u (by omega) fr
          | true =>
            refine .inr ⟨s ^^^ turnT n hs k, (mem _).mpr ⟨Nat.xor_lt_two_pow a t1, by rw [t2]; exact b, fun u hu fr => ?_⟩, back s⟩
            rw [t3 s u fr]
            by_cases e : u = k
            · rw [e, q, decide_eq_true rfl]; rfl
            · rw [c u (by omega) fr, decide_eq_false e]; rfl
theorem plK_places (F : FlatOk hs) (hlt : ∀ e ∈ hs, e.2.1 < 2 ^ n) (n62 : n ≤ 62) : (plK n hs n).Perm (places n hs) := by
  obtain ⟨nd, mem⟩ := plK_mem F hlt n62 n (Nat.le_refl _)
  refine (List.perm_ext_iff_of_nodup nd ((places_lt n hs).imp fun h => Nat.ne_of_lt h)).mpr fun s => ?_
  rw [mem]
  unfold places
  rw [List.mem_filter, List.mem_range]
  exact ⟨fun ⟨a, b, _⟩ => ⟨a, b⟩, fun ⟨a, b⟩ => ⟨a, b, fun u hu _ => fS_out (by omega)⟩⟩
end
end Es
set_option Elab.async false
set_option linter.all false
set_option maxRecDepth 100000
set_option maxHeartbeats 4000000
namespace Es
open PySem PySem.Spec PyProof.Rows L2
def sp_places_in (K : PySem.W.Frag) : Sp := fun vs H Q _ => ∃ (n : Nat) (v : V) (hs : List (Nat × Nat × Nat)), vs = [.int (n : Int), v] ∧ FlatV K H v hs ∧ FlatOk hs ∧ (∀ e ∈ hs, e.2.1 < 2 ^ n) ∧ n ≤ 13 ∧
  ∀ H' p, Same H H' → H p = none → H' p = some (.lst (iv (plK n hs n))) → Q (.ref p) H'
def digB (n k : Nat) : List (Nat × Nat) := (List.range k).map fun u => (u, 2 ^ ex n u)
theorem digB_look {n k u : Nat} (h : u < k) : lookB (digB n k) u = some (2 ^ ex n u) := by
  have : ∀ m, m ≤ k → u < m → lookB (digB n m) u = some (2 ^ ex n u) := by
    intro m
    induction m with
    | zero => intro _ h; omega
    | succ m ih =>
      intro hm hu
      unfold digB
      rw [List.range_succ, List.map_append]
      show lookB (digB n m ++ [(m, 2 ^ ex n m)]) u = _
      have no : lookB (digB n m) m = none := by
        rw [lookB_none]
        unfold digB
        rw [List.map_map]
        intro z
        obtain ⟨x, hx, e⟩ := List.mem_map.mp z
        have := List.mem_range.mp hx
        have e : x = m := e
        omega
      rw [lookB_snoc no]
      by_cases e : u = m
      · rw [if_pos e, e]
      · rw [if_neg e]
        exact ih (by omega) (by omega)
  exact this k (Nat.le_refl _) h
theorem digB_no (n k : Nat) : lookB (digB n k) k = none := by
  rw [lookB_none]
  unfold digB
  rw [List.map_map]
  intro z
  obtain ⟨x, hx, e⟩ := List.mem_map.mp z
  have := List.mem_range.mp hx
  have e : x = k := e
  omega
theorem sum_oneH {n : Nat} {hs : List (Nat × Nat × Nat)} (F : FlatOk hs) (hlt : ∀ e ∈ hs, e.2.1 < 2 ^ n) : ((oneH hs).map fun v => 2 ^ ex n v).sum = plZ n hs := by
  unfold plZ
  rw [← sum_msk (ex_nodup (oneH_nodup F) (oneH_lt F hlt)), List.map_map]
  rfl
theorem sum_turn {n u : Nat} {hs : List (Nat × Nat × Nat)} (F : FlatOk hs) (hlt : ∀ e ∈ hs, e.2.1 < 2 ^ n) (hu : u < n) (free : u ∉ hs.map (·.1)) : 2 ^ ex n u + ((tiedH hs u).map fun v => 2 ^ ex n v).sum = turnT n hs u := by
  unfold turnT
  rw [← sum_msk (ex_nodup (tied_nodup F free) (tied_lt F hlt hu)), List.map_map, List.map_cons, List.sum_cons]
  rfl
theorem int_sum (l : List Nat) : (l.map fun v => ((v : Nat) : Int)).sum = ((l.sum : Nat) : Int) := sum_nat l
theorem sumI_oneH {n : Nat} {hs : List (Nat × Nat × Nat)} (F : FlatOk hs) (hlt : ∀ e ∈ hs, e.2.1 < 2 ^ n) : ((oneH hs).map fun v => ((2 ^ ex n v : Nat) : Int)).sum = ((plZ n hs : Nat) : Int) := by
  rw [← sum_oneH F hlt, ← int_sum, List.map_map]
  rfl
theorem sumI_turn {n u : Nat} {hs : List (Nat × Nat × Nat)} (F : FlatOk hs) (hlt : ∀ e ∈ hs, e.2.1 < 2 ^ n) (hu : u < n) (free : u ∉ hs.map (·.1)) : ((2 ^ ex n u : Nat) : Int) + ((tiedH hs u).map fun v => ((2 ^ ex n v : Nat) : Int)).sum = ((turnT n hs u : Nat) : Int) := by
  rw [← sum_turn F hlt hu free, Int.natCast_add, ← int_sum, List.map_map]
  rfl
end Es
set_option Elab.async false
set_option linter.all false
set_option maxRecDepth 100000
set_option maxHeartbeats 4000000
namespace Es
open PySem PySem.Spec PyProof.Rows L2
section
variable {X : Cx}
theorem swd_true {kx vx : Expr} {gs : List Comprehension} {scope : Scope} {pos py : Pos} {y : Str} {l : Nat} {env : Env} (fn : env.scope.kind = .function) (loc : env.scope.names.lookup y = some .local) (ln : (py.line == pos.line) = true)
    (no : (scope.names.any fun p => p.1 == y && (p.2 == .local || p.2 == .cell)) = false) : swapsWith (.DictComp kx vx gs scope pos) (some (.Name y py)) l env = pure true := by
  have e1 : env.kindOf y = some .local := loc
  have e2 : env.blockKind = .function := by unfold Env.blockKind; rw [fn]; rfl
  have e3 : (scope.names.any fun (n, k) => n == y && (k == .local || k == .cell)) = false := no
  unfold swapsWith
  simp only [e1, e2, e3, Expr.pos, ln]
  rfl
theorem ps_setDc {i : Nat} {y : Str} {py : Pos} {kx vx tg iter : Expr} {ifs : List Expr} {scope : Scope} {own : List (Str × Nat)} {pos spos : Pos} {wi : TI} {g : TG} {tt : TT} {tk tv : TE} (calm : X.calm = true) (nd : X.N.Nodup) (at_ : X.N[i]? = some y) (loc : X.env.scope.names.lookup y = some .local)
    (sw : swapsWith (.DictComp kx vx [⟨tg, iter, ifs, 0⟩] scope pos) (some (.Name y py)) spos.line X.env = pure true) (hi : PI X tg iter wi) (ok : BlkOk X.N X.env.scope scope own)
    (hg : ∀ (s : Shared) (H : Hp) (C : Addr) (cl : List (Str × Addr)) (fp : List Addr), PG (X.blk s H scope (compEnvC scope cl C X.env) fp) tg g)
    (ht : ∀ (s : Shared) (H : Hp) (C : Addr) (cl : List (Str × Addr)) (fp : List Addr), PTs (X.blk s H scope (compEnvC scope cl C X.env) fp) ifs tt)
    (hk : ∀ (s : Shared) (H : Hp) (C : Addr) (cl : List (Str × Addr)) (fp : List Addr), PE (X.blk s H scope (compEnvC scope cl C X.env) fp) kx tk)
    (he : ∀ (s : Shared) (H : Hp) (C : Addr) (cl : List (Str × Addr)) (fp : List Addr), PE (X.blk s H scope (compEnvC scope cl C X.env) fp) vx tv)
    (hs : ∀ x, foldedSetIterable iter X.env x = pure x := by intro _; rfl) :
    PS X (.Assign [.Name y py] (.DictComp kx vx [⟨tg, iter, ifs, 0⟩] scope pos) spos) (tAsg (tDc wi g tt tk tv (own.map (·.2))) (gName i)) := by
  constructor
  intro pins s σ H D I want
  rw [exec_Assign_Name_used _ _ _ _ sw]
  refine wpAny_bind (wpAny_standAt (wpAny_bind ?_))
  show wpAny _ X.A (do let _ ← comprehension (.DictComp kx vx [⟨tg, iter, ifs, 0⟩] scope pos) scope X.env (firstIterPos [⟨tg, iter, ifs, 0⟩] pos) newDict false (eval iter X.env) (some (assign (.Name y py) X.env))) _ _ s
  have want : tDc wi g tt tk tv (own.map (·.2)) σ H (fun x H1 => gName i x σ H1 D.nx) := want
  refine wpAny_bind (thn (dc_core (Qf := fun _ s' => SP X pins D .next s') calm nd I hi ok hg ht hk he hs want ?_) fun _ s' q => wpAny_pure (wpAny_pure q))
  intro L C s1 m H1 I1 q ns fp
  obtain ⟨f0, f1, f2, f3, f4, f5⟩ := fp
  show wpAny _ _ (assign (.Name y py) X.env (.ref L)) _ _ _
  refine wpAny_assign_Name (store_ok2 (v := V.ref L) I1 nd at_ (.inl loc) rfl ?_ (.inr loc))
  rintro s2 I2 ⟨a, sb, ha⟩
  have ne_ : C ≠ a := by
    intro e
    rcases ha with z | z
    · exact f1 (e.trans z)
    · exact f4 y a z e.symm
  exact ⟨m, ns.sameBut sb ne_, fun h3 sb3 => ⟨_, H1, I2.turned (t' := s2.toks) (fun b o hb e => (sb3.2 b hb).trans e) f0 f1 f3 f4 f5, q⟩⟩
def tTruth (K : PySem.W.Frag) (ta : TE) : TT := fun σ H Q => ta σ H fun x H' => ∃ k, TruV K x H' k ∧ Q k H'
theorem pt_truthI {K : PySem.W.Frag} {a : Expr} {ta : TE} (hK : X.K = K) (ha : PE X a ta) (he : ∀ whole, isTrue a X.env whole = (do let v ← whole; standAt a.pos; holding [v] (truthy v))) : PT X a (tTruth K ta) := by
  subst hK
  exact pt_truth ha he
theorem dc_range {lo : Int} {n : Nat} {g : TG} {tt : TT} {tk tv : TE} {vs : List Nat} {σ : L2.St} {H1 : Hp} {D : Addr} {Qd : Hp → Prop} (Pv : Nat → Hp → Prop) (first : Pv 0 (upd H1 D (.dK [])))
    (turn : ∀ i H, i < n → Pv i H → g (.int (lo + i)) (wipe σ vs) H fun σ2 H2 => wipe σ2 vs = wipe σ vs ∧ tt σ2 H2 fun b H3 =>
      if b = true then tk σ2 H3 fun y H4 => tv σ2 H4 fun z H5 => ∃ kvs k, y = kV k ∧ H5 D = some (.dK kvs) ∧ kvs.length < sizeLine ∧ Pv (i + 1) (upd H5 D (.dK (putK kvs k z))) else Pv (i + 1) H3) (last : ∀ H, Pv n H → Qd H) :
    ∃ W : Nat → Nat → Hp → Prop, (∃ m, W 0 m (upd H1 D (.dK []))) ∧ ∀ i m H, W i m H →
      ((Itr lo n).stop i H ∧ Qd H) ∨ ((Itr lo n).go i H ∧ ∃ Nx : Hp → Prop, (∀ H', Nx H' → ∃ m', m' < m ∧ W (i + 1) m' H') ∧ ∀ x H', (Itr lo n).yld i H x H' → g x (wipe σ vs) H' fun σ2 H2 => wipe σ2 vs = wipe σ vs ∧ tt σ2 H2 fun b H3 =>
        if b = true then tk σ2 H3 fun y H4 => tv σ2 H4 fun z H5 => ∃ kvs k, y = kV k ∧ H5 D = some (.dK kvs) ∧ kvs.length < sizeLine ∧ Nx (upd H5 D (.dK (putK kvs k z))) else Nx H3) := by
  refine ⟨fun i m H => m = n - i ∧ i ≤ n ∧ Pv i H, ⟨n, (Nat.sub_zero n).symm, Nat.zero_le _, first⟩, ?_⟩
  rintro i m H ⟨rfl, le, p⟩
  rcases Nat.lt_or_ge i n with lt | ge
  · refine .inr ⟨lt, Pv (i + 1), fun H' q => ⟨n - (i + 1), by omega, rfl, lt, q⟩, ?_⟩
    rintro x H' ⟨rfl, rfl⟩
    exact turn i _ lt p
  · obtain rfl : i = n := Nat.le_antisymm le ge
    exact .inl ⟨Nat.le_refl _, last H p⟩
end
end Es
set_option Elab.async false
set_option linter.all false
set_option maxRecDepth 100000
set_option maxHeartbeats 4000000
namespace Es
open PySem PySem.Spec PyProof.Rows L2
def outB (n : Nat) (ls : List (Nat × Nat)) (s : Nat) : Bool := !(ls.any fun l => holdsB l (fS n s))
theorem flip_holdsB {l : Nat × Nat} (h : l.2 < 2) (f : Nat → Bool) : holdsB (flipL l) f = !holdsB l f := by
  have := holds_flip (m := l.1) (f := f) h
  rw [Bool.eq_iff_iff, Bool.not_eq_true', ← Bool.not_eq_true, holdsB_iff, holdsB_iff]
  exact this
theorem all_flipO {n : Nat} {ls : List (Nat × Nat)} (h : ∀ l ∈ ls, l.2 < 2) (s : Nat) : ((ls.map flipL).all fun l => holdsB l (fS n s)) = outB n ls s := by
  unfold outB
  rw [Bool.eq_iff_iff, List.all_eq_true, Bool.not_eq_true', List.any_eq_false]
  constructor
  · intro k l hl
    have := k _ (List.mem_map.mpr ⟨l, hl, rfl⟩)
    rw [flip_holdsB (h l hl)] at this
    simpa using this
  · intro k l hl
    obtain ⟨l0, h0, rfl⟩ := List.mem_map.mp hl
    rw [flip_holdsB (h l0 h0)]
    simpa using k l0 h0
theorem miss_none {n : Nat} {ls : List (Nat × Nat)} (n62 : n ≤ 62) (h : ∀ l ∈ ls, l.1 < 2 ^ n ∧ l.2 < 2) (q : lflat (ls.map flipL) = none) (s : Nat) : outB n ls s = false := by
  have h63 := two63 n62 (flip_lt h)
  obtain ⟨_, a2⟩ := lflat_sol (ls.map flipL) h63
  cases z : outB n ls s with
  | false => rfl
  | true =>
    rw [← all_flipO (fun l hl => (h l hl).2), List.all_eq_true] at z
    exact absurd (fun l hl => holdsB_iff.mp (z l hl)) (a2 q (fS n s))
theorem miss_some {n : Nat} {ls : List (Nat × Nat)} {hs : List (Nat × Nat × Nat)} (n62 : n ≤ 62) (h : ∀ l ∈ ls, l.1 < 2 ^ n ∧ l.2 < 2) (q : lflat (ls.map flipL) = some hs) : FlatOk hs ∧ (∀ e ∈ hs, e.2.1 < 2 ^ n) ∧ ∀ s, inF n hs s = outB n ls s := by
  have h63 := two63 n62 (flip_lt h)
  have F := lflat_flat _ h63 hs q
  refine ⟨F, lflat_lt (by omega) _ (flip_lt h) hs q, fun s => ?_⟩
  rw [← all_flipO (fun l hl => (h l hl).2)]
  unfold inF
  rw [Bool.eq_iff_iff, all_canon F, (lflat_sol _ h63).1 hs q, List.all_eq_true]
  exact ⟨fun k l hl => holdsB_iff.mpr (k l hl), fun k l hl => holdsB_iff.mp (k l hl)⟩
def MarksAt (n : Nat) (cs : List (List (Nat × Nat))) (i : Nat) (L : List Nat) (ms : List Nat) : Prop :=
  ms.length = 2 ^ n ∧ ∀ s, s < 2 ^ n → ∀ j, (ms.getD s 0).testBit j = ((decide (j < i) && outB n (cs.getD j []) s) || (decide (j = i) && decide (s ∈ L)))
theorem marks_nil (n : Nat) (cs : List (List (Nat × Nat))) : MarksAt n cs 0 [] (List.replicate (2 ^ n) 0) := by
  refine ⟨List.length_replicate, fun s hs j => ?_⟩
  rw [List.getD_eq_getElem?_getD, List.getElem?_replicate, if_pos hs]
  show (0 : Nat).testBit j = _
  rw [Nat.zero_testBit]
  simp
theorem marks_put {n i p : Nat} {cs : List (List (Nat × Nat))} {L : List Nat} {ms : List Nat} (h : MarksAt n cs i L ms) (hp : p < 2 ^ n) : MarksAt n cs i (L ++ [p]) (ms.set p (ms.getD p 0 ||| 2 ^ i)) := by
  obtain ⟨h1, h2⟩ := h
  refine ⟨by rw [List.length_set]; exact h1, fun s hs j => ?_⟩
  by_cases e : s = p
  · subst e
    rw [List.getD_eq_getElem?_getD, List.getElem?_set_self (by omega)]
    show (ms.getD s 0 ||| 2 ^ i).testBit j = _
    rw [Nat.testBit_or, h2 s hs j, Nat.testBit_two_pow]
    by_cases k : j = i
    · subst k
      simp
    · rw [decide_eq_false k, decide_eq_false (Ne.symm k)]
      simp
  · rw [List.getD_eq_getElem?_getD, List.getElem?_set_ne (Ne.symm e), ← List.getD_eq_getElem?_getD, h2 s hs j]
    congr 2
    rw [decide_eq_decide, List.mem_append, List.mem_singleton]
    exact ⟨.inl, fun h => h.resolve_right e⟩
theorem marks_next {n i : Nat} {cs : List (List (Nat × Nat))} {L : List Nat} {ms : List Nat} (h : MarksAt n cs i L ms) (hL : ∀ s, s < 2 ^ n → (s ∈ L ↔ outB n (cs.getD i []) s = true)) : MarksAt n cs (i + 1) [] ms := by
  obtain ⟨h1, h2⟩ := h
  refine ⟨h1, fun s hs j => ?_⟩
  rw [h2 s hs j]
  by_cases k : j = i
  · subst k
    have e : decide (s ∈ L) = outB n (cs.getD j []) s := by
      rw [Bool.eq_iff_iff, decide_eq_true_eq]
      exact hL s hs
    rw [e, decide_eq_false (Nat.lt_irrefl j), decide_eq_true (p := j = j) rfl, decide_eq_true (Nat.lt_succ_self j)]
    simp
  · rw [decide_eq_false (p := j = i) k]
    have : decide (j < i) = decide (j < i + 1) := by rw [decide_eq_decide]; omega
    rw [this]
    simp
theorem marks_end {n : Nat} {cs : List (List (Nat × Nat))} {ms : List Nat} (h : MarksAt n cs cs.length [] ms) {s : Nat} (hs : s < 2 ^ n) : ms.getD s 0 = 0 ↔ (cs.all fun ls => ls.any fun l => holdsB l (fS n s)) = true := by
  obtain ⟨h1, h2⟩ := h
  rw [List.all_eq_true]
  constructor
  · intro z ls hl
    obtain ⟨j, hj⟩ := List.getElem?_of_mem hl
    have jl := (List.getElem?_eq_some_iff.mp hj).1
    have := h2 s hs j
    rw [z, Nat.zero_testBit, decide_eq_true jl, List.getD_eq_getElem?_getD, hj] at this
    unfold outB at this
    simp only [Option.getD_some, Bool.true_and, List.not_mem_nil, decide_false, Bool.and_false, Bool.or_false] at this
    cases q : (ls.any fun l => holdsB l (fS n s)) with
    | true => rfl
    | false => rw [q] at this; cases this
  · intro k
    refine Nat.eq_of_testBit_eq fun j => ?_
    rw [h2 s hs j, Nat.zero_testBit]
    by_cases jl : j < cs.length
    · have := k cs[j] (List.getElem_mem jl)
      unfold outB
      rw [List.getD_eq_getElem?_getD, List.getElem?_eq_getElem jl]
      show ((_ && !(cs[j].any _)) || _) = false
      rw [this]
      simp
    · rw [decide_eq_false jl]
      simp
def sp_marks_of (K : PySem.W.Frag) : Sp := fun vs H Q _ => ∃ (v : V) (n : Nat) (cs : List (List (Nat × Nat))), vs = [v] ∧ BookV K H v n cs ∧ n ≤ 13 ∧ ((∀ ls ∈ cs, (∀ l ∈ ls, l.1 < 2 ^ n ∧ l.2 < 2) ∧ ls.length ≤ 60) ∧ cs.length ≤ 240) ∧
  ∀ H' p ms, Same H H' → H p = none → H' p = some (.lst (iv ms)) → MarksAt n cs cs.length [] ms → Q (.ref p) H'
theorem iv_rep (k : Nat) : (List.replicate k [V.int 0]).flatten = iv (List.replicate k 0) := by
  induction k with
  | zero => rfl
  | succ k ih =>
    rw [List.replicate_succ, List.flatten_cons, ih, List.replicate_succ]
    rfl
end Es
set_option Elab.async false
set_option linter.all false
set_option maxRecDepth 100000
set_option maxHeartbeats 4000000
namespace Es
open PySem PySem.Spec PyProof.Rows L2
def rSortedI (K : PySem.W.Frag) : List V → Hp → VK → Prop := fun vs H Q => ∃ (a : Addr) (ns : List Int), vs = [V.ref a] ∧ SqL K H a (ns.map V.int) ∧
  ∀ (ns' : List Int) (p : Addr), ns'.Perm ns → ns'.Pairwise (· ≤ ·) → H p = none → Q (.ref p) (upd H p (.lst (ns'.map V.int)))
theorem cr_sortedI {X : Cx} : CallR X (.builtin "sorted") (rSortedI X.K) := by
  intro pins s σ H vs us Q I r h
  obtain ⟨a, ns, rfl, hs, q⟩ := h
  obtain rfl := Vals.ref1 r
  refine sorted_run (b := false) (kw := []) I hs (fun a => ?_) ?_ (fun a => ?_) fun ns' p h1 h2 h3 => q ns' p h1 h2 h3
  · rfl
  · unfold argsOk; kernel_rfl
  · unfold argsOk; kernel_rfl
end Es
set_option Elab.async false
set_option linter.all false
set_option maxRecDepth 100000
set_option maxHeartbeats 4000000
namespace Es
open PySem PySem.Spec PyProof.Rows L2
def kpB (n : Nat) (cs : List (List (Nat × Nat))) (s : Nat) : Bool := cs.all fun ls => ls.any fun l => holdsB l (fS n s)
def lnB (n : Nat) (ls : List (Nat × Nat)) (s : Nat) : Bool := ls.all fun l => holdsB l (fS n s)
def plM (n : Nat) (cs : List (List (Nat × Nat))) (hs : List (Nat × Nat × Nat)) : List Nat := (places n hs).filter (kpB n cs)
def plL (n : Nat) (cs : List (List (Nat × Nat))) (ls : List (Nat × Nat)) : List Nat := (List.range (2 ^ n)).filter fun s => lnB n ls s && kpB n cs s
def BookW (n : Nat) (cs : List (List (Nat × Nat))) : Prop := (∀ ls ∈ cs, (∀ l ∈ ls, l.1 < 2 ^ n ∧ l.2 < 2) ∧ ls.length ≤ 60) ∧ cs.length ≤ 240
theorem lines_none {n : Nat} {ls : List (Nat × Nat)} {cs : List (List (Nat × Nat))} (n62 : n ≤ 62) (h : ∀ l ∈ ls, l.1 < 2 ^ n ∧ l.2 < 2) (q : lflat ls = none) : plL n cs ls = [] := by
  obtain ⟨_, a2⟩ := lflat_sol ls (two63 n62 h)
  unfold plL
  rw [List.filter_eq_nil_iff]
  intro s _ z
  rw [Bool.and_eq_true] at z
  have z := z.1
  unfold lnB at z
  rw [List.all_eq_true] at z
  exact a2 q (fS n s) fun l hl => holdsB_iff.mp (z l hl)
theorem lines_some {n : Nat} {ls : List (Nat × Nat)} {hs : List (Nat × Nat × Nat)} {cs : List (List (Nat × Nat))} (n62 : n ≤ 62) (h : ∀ l ∈ ls, l.1 < 2 ^ n ∧ l.2 < 2) (q : lflat ls = some hs) :
    FlatOk hs ∧ (∀ e ∈ hs, e.2.1 < 2 ^ n) ∧ plM n cs hs = plL n cs ls := by
  have h63 := two63 n62 h
  have F := lflat_flat _ h63 hs q
  refine ⟨F, lflat_lt (by omega) _ h hs q, ?_⟩
  unfold plM plL places
  rw [List.filter_filter]
  refine List.filter_congr fun s _ => ?_
  rw [Bool.and_comm]
  congr 1
  unfold inF lnB
  rw [Bool.eq_iff_iff, all_canon F, (lflat_sol _ h63).1 hs q, List.all_eq_true]
  exact ⟨fun k l hl => holdsB_iff.mpr (k l hl), fun k l hl => holdsB_iff.mp (k l hl)⟩
theorem lines_nil : lflat [] = some [] := rfl
theorem plM_nil {n : Nat} (n62 : n ≤ 62) (cs : List (List (Nat × Nat))) : FlatOk [] ∧ plM n cs [] = plL n cs [] := by
  have := lines_some (n := n) (cs := cs) n62 (fun l h => by cases h) lines_nil
  exact ⟨this.1, this.2.2⟩
theorem plL_len (n : Nat) (cs : List (List (Nat × Nat))) (ls : List (Nat × Nat)) : (plL n cs ls).length ≤ 2 ^ n := by
  have := List.length_filter_le (fun s => lnB n ls s && kpB n cs s) (List.range (2 ^ n))
  rw [List.length_range] at this
  exact this
theorem sorted_places {n : Nat} {hs : List (Nat × Nat × Nat)} {ns : List Int} (F : FlatOk hs) (hlt : ∀ e ∈ hs, e.2.1 < 2 ^ n) (n62 : n ≤ 62) (p : ns.Perm ((plK n hs n).map fun (x : Nat) => (x : Int))) (o : ns.Pairwise (· ≤ ·)) : ns = (places n hs).map fun (x : Nat) => (x : Int) := by
  have p2 : ns.Perm ((places n hs).map fun (x : Nat) => (x : Int)) := p.trans ((plK_places F hlt n62).map _)
  refine List.Perm.eq_of_pairwise (le := (· ≤ ·)) (fun a b _ _ h1 h2 => by omega) o ?_ p2
  refine List.Pairwise.map _ (fun a b (h : a < b) => by omega) (places_lt n hs)
def sp_model_places (K : PySem.W.Frag) : Sp := fun vs H Q _ => ∃ (v vf : V) (n : Nat) (cs : List (List (Nat × Nat))) (hs : List (Nat × Nat × Nat)), vs = [v, vf] ∧ BookV K H v n cs ∧ n ≤ 12 ∧ BookW n cs ∧ FlatV K H vf hs ∧ FlatOk hs ∧ (∀ e ∈ hs, e.2.1 < 2 ^ n) ∧
  ∀ H' p, Same H H' → H p = none → H' p = some (.lst (iv (plM n cs hs))) → Q (.ref p) H'
def sp_bits_at (K : PySem.W.Frag) : Sp := fun vs H Q _ => ∃ (n s : Nat), vs = [.int (n : Int), .int (s : Int)] ∧ n ≤ 13 ∧ ∀ H' v, Same H H' → BitsV K n H' v s → Q v H'
def LeastV (K : PySem.W.Frag) (n : Nat) (H : Hp) (v : V) : List Nat → Prop
  | [] => v = .non
  | s :: _ => BitsV K n H v s
def sp_model_with (K : PySem.W.Frag) : Sp := fun vs H Q _ => ∃ (v : V) (a : Addr) (us : List V) (n : Nat) (cs : List (List (Nat × Nat))) (ls : List (Nat × Nat)), vs = [v, .ref a] ∧ BookV K H v n cs ∧ n ≤ 12 ∧ BookW n cs ∧ Sq K H a us ∧ Paired (LineV K H) us ls ∧ (∀ l ∈ ls, l.1 < 2 ^ n ∧ l.2 < 2) ∧
  ∀ H' u, Same H H' → LeastV K n H' u (plL n cs ls) → Q u H'
def sp_least_model (K : PySem.W.Frag) : Sp := fun vs H Q _ => ∃ (v : V) (n : Nat) (cs : List (List (Nat × Nat))), vs = [v] ∧ BookV K H v n cs ∧ n ≤ 12 ∧ BookW n cs ∧
  ∀ H' u, Same H H' → LeastV K n H' u (plL n cs []) → Q u H'
def sp_models_many (K : PySem.W.Frag) : Sp := fun vs H Q _ => ∃ (v : V) (n : Nat) (cs : List (List (Nat × Nat))), vs = [v] ∧ BookV K H v n cs ∧ n ≤ 12 ∧ BookW n cs ∧
  ∀ H', Same H H' → Q (.int ((plL n cs []).length : Nat)) H'
def sp_law_countZ (K : PySem.W.Frag) : Sp := fun vs H Q _ => ∃ (x N : Nat), vs = [.int (x : Int)] ∧ x < 2 ^ N ∧ N ≤ 4096 ∧ ∀ H', Same H H' → Q (.int (cntB N x : Nat)) H'
theorem bookW_of {n : Nat} {cs : List (List (Nat × Nat))} (h : ∀ ls ∈ cs, ClOkZ n ls) (l : cs.length ≤ 240) : BookW n cs := ⟨fun ls hl => ⟨fun e he => ⟨((h ls hl).1 e he).1, ((h ls hl).1 e he).2.2⟩, by have := (h ls hl).2; omega⟩, l⟩
end Es
set_option Elab.async false
set_option linter.all false
set_option maxRecDepth 100000
set_option maxHeartbeats 4000000
namespace Es
open PySem PySem.Spec PyProof.Rows L2
def sp_law_is_int (K : PySem.W.Frag) : Sp := sp_law_is_whole K
def sp_law_are_bits (K : PySem.W.Frag) : Sp := fun vs H Q _ => ∃ (u : V) (n s : Nat), vs = [.int (n : Int), u] ∧ BitsV K n H u s ∧ n ≤ 12 ∧ ∀ H', Same H H' → Q (.bl true) H'
def sp_law_some_lines (K : PySem.W.Frag) : Sp := fun vs H Q _ => ∃ (b c : Addr) (v : V) (n x : Nat), vs = [.ref b, v, .int (x : Int)] ∧ BagAt K H b c ∧ RoomV K H v n ∧ n ≤ 12 ∧ x < 2 ^ 2 ^ n ∧
  ∀ H' t us ls, But b H H' → BagAt K H' b c → SqT K H' t us → Paired (LineV K H') us ls → (∀ l ∈ ls, l.1 < 2 ^ n ∧ l.2 < 2) → ls.length ≤ 12 → Q (.ref t) H'
def sp_law_is_with_right (K : PySem.W.Frag) : Sp := fun vs H Q _ => ∃ (b c : Addr) (v u : V) (n x : Nat) (cs : List (List (Nat × Nat))), vs = [.ref b, v, u, .int (x : Int)] ∧ BagAt K H b c ∧ RoomV K H v n ∧ n ≤ 12 ∧ BookV K H u n cs ∧ BookW n cs ∧ BitsOf (2 ^ n) x (kpB n cs) ∧
  ∀ H', But b H H' → BagAt K H' b c → Q (.bl true) H'
def SqB (K : PySem.W.Frag) (A : List Addr) (pb : Addr) (xs : List V) (H : Hp) : Prop := (pb ∉ A ∧ H pb = some (.lst xs)) ∨ SqT K H pb xs
theorem SqB.sq {K : PySem.W.Frag} {A : List Addr} {pb : Addr} {xs : List V} {H : Hp} (h : SqB K A pb xs H) : Sq K H pb xs := by
  rcases h with ⟨_, h⟩ | h
  · exact .inl (.inl (.inl h))
  · exact .inr h
theorem SqB.same {K : PySem.W.Frag} {A : List Addr} {pb : Addr} {xs : List V} {H H' : Hp} (s : Same H H') (h : SqB K A pb xs H) : SqB K A pb xs H' := by
  rcases h with ⟨n, h⟩ | h
  · exact .inl ⟨n, s _ _ h⟩
  · exact .inr (sqT_same s h)
theorem SqB.but {K : PySem.W.Frag} {A : List Addr} {pb b : Addr} {xs ys : List V} {H H' : Hp} (m : b ∈ A) (e : H b = some (.lst ys)) (s : But b H H') (h : SqB K A pb xs H) : SqB K A pb xs H' := by
  rcases h with ⟨n, h⟩ | h
  · exact .inl ⟨n, s _ _ (fun z => n (z ▸ m)) h⟩
  · exact .inr (sqT_but e s h)
theorem SqB.add {K : PySem.W.Frag} {A : List Addr} {pb l : Addr} {xs : List V} {H : Hp} (e : H l = none) (h : SqB K A pb xs H) : SqB K (l :: A) pb xs H := by
  rcases h with ⟨n, h⟩ | h
  · refine .inl ⟨fun z => ?_, h⟩
    rcases List.mem_cons.mp z with z | z
    · rw [z, e] at h
      cases h
    · exact n z
  · exact .inr h
theorem bitsD_factsZ {n s : Nat} (n12 : n ≤ 12) : nice (bitsD n s) = true ∧ (bitsD n s).depth ≤ 1 ∧ (bitsD n s).weight ≤ 24 := by
  refine ⟨niceAll_iff.mpr fun x hx => ?_, ?_, ?_⟩
  · obtain ⟨i, hi, rfl⟩ := List.mem_map.mp hx
    obtain ⟨b, hb, rfl⟩ := List.mem_map.mp hi
    have := bitsS_lt n s b hb
    exact decide_eq_true (by show (b : Int).natAbs < 10 ^ 12; omega)
  · show PyData.depthAll _ + 1 ≤ 1
    rw [depth_ints]
    decide
  · show PyData.weightAll _ ≤ 24
    have := weight_ints (k := 1) (ns := (bitsS n s).map Int.ofNat) fun i hi => by
      obtain ⟨b, hb, rfl⟩ := List.mem_map.mp hi
      have := bitsS_lt n s b hb
      show (b : Int).natAbs < 2 ^ 1
      omega
    rw [List.length_map, bitsS_len] at this
    omega
def leastD (n : Nat) : List Nat → PyData
  | [] => .none
  | s :: _ => bitsD n s
theorem leastD_facts {n : Nat} (n12 : n ≤ 12) (L : List Nat) : nice (leastD n L) = true ∧ (leastD n L).depth ≤ 1 ∧ (leastD n L).weight ≤ 24 := by
  cases L with
  | nil => exact ⟨rfl, (by show PyData.none.depth ≤ 1; decide), (by show PyData.none.weight ≤ 24; decide)⟩
  | cons s L => exact bitsD_factsZ n12
theorem dp_least {K : PySem.W.Frag} {H : Hp} {n : Nat} {v : V} {L : List Nat} (h : LeastV K n H v L) : Dp K H v (leastD n L) := by
  cases L with
  | nil =>
    have h : v = .non := h
    subst h
    exact .non
  | cons s L => exact dp_bits h
theorem place_back {n s : Nat} (hs : s < 2 ^ n) : (bitsS n s).foldl (fun x b => 2 * x + b) 0 = s := by
  obtain ⟨h1, h2⟩ := place_bits (bitsS n s) (bitsS_lt n s)
  rw [bitsS_len] at h1 h2
  generalize (bitsS n s).foldl (fun x b => 2 * x + b) 0 = t at h1 h2
  have a := bits_lt (n := n) hs h1
  have b := bits_lt (n := n) h1 hs
  rw [← h2] at a b
  have n1 : ¬ s < t := fun z => List.lt_irrefl _ (a.mpr z)
  have n2 : ¬ t < s := fun z => List.lt_irrefl _ (b.mpr z)
  omega
theorem kept_bits {n x y : Nat} {cs : List (List (Nat × Nat))} {ls : List (Nat × Nat)} (hx : BitsOf (2 ^ n) x (kpB n cs)) (hy : BitsOf (2 ^ n) y (lnB n ls)) : BitsOf (2 ^ n) (x &&& y) (fun s => lnB n ls s && kpB n cs s) := by
  refine ⟨Nat.lt_of_le_of_lt Nat.and_le_left hx.1, fun s hs => ?_⟩
  rw [Nat.testBit_and, hx.2 s hs, hy.2 s hs, Bool.and_comm]
theorem bits_list {n x : Nat} {p : Nat → Bool} (hx : BitsOf (2 ^ n) x p) : (List.range (2 ^ n)).filter p = (List.range (2 ^ n)).filter fun s => x.testBit s := by
  refine List.filter_congr fun s hs => ?_
  rw [hx.2 s (List.mem_range.mp hs)]
theorem bits_nil {n x : Nat} {p : Nat → Bool} (hx : BitsOf (2 ^ n) x p) (h : (List.range (2 ^ n)).filter p = []) : x = 0 := by
  refine Nat.eq_of_testBit_eq fun s => ?_
  rw [Nat.zero_testBit]
  by_cases hs : s < 2 ^ n
  · rw [hx.2 s hs]
    have := List.filter_eq_nil_iff.mp h s (List.mem_range.mpr hs)
    simpa using this
  · exact Nat.testBit_lt_two_pow (Nat.lt_of_lt_of_le hx.1 (Nat.pow_le_pow_right (by decide) (Nat.le_of_not_lt hs)))
theorem filter_head {p : Nat → Bool} {s : Nat} {L : List Nat} : ∀ {k : Nat}, (List.range k).filter p = s :: L → p s = true ∧ s < k ∧ ∀ j, j < s → p j = false
  | k, h => by
    have m : s ∈ (List.range k).filter p := by rw [h]; exact List.mem_cons_self
    have m := List.mem_filter.mp m
    refine ⟨m.2, List.mem_range.mp m.1, fun j hj => ?_⟩
    cases q : p j with
    | false => rfl
    | true =>
      have mj : j ∈ (List.range k).filter p := List.mem_filter.mpr ⟨List.mem_range.mpr (Nat.lt_trans hj (List.mem_range.mp m.1)), q⟩
      have so : ((List.range k).filter p).Pairwise (· < ·) := List.Pairwise.filter _ List.pairwise_lt_range
      rw [h] at mj so
      rcases List.mem_cons.mp mj with z | z
      · omega
      · have := (List.pairwise_cons.mp so).1 j z
        omega
theorem bits_head {n x s : Nat} {p : Nat → Bool} {L : List Nat} (hx : BitsOf (2 ^ n) x p) (h : (List.range (2 ^ n)).filter p = s :: L) : s < 2 ^ n ∧ x.testBit s = true ∧ (∀ j, j < s → x.testBit j = false) ∧ x ≠ 0 := by
  obtain ⟨h1, h2, h3⟩ := filter_head h
  have t : x.testBit s = true := by rw [hx.2 s h2]; exact h1
  refine ⟨h2, t, fun j hj => by rw [hx.2 j (Nat.lt_trans hj h2)]; exact h3 j hj, fun z => ?_⟩
  rw [z, Nat.zero_testBit] at t
  cases t
theorem LeastV.same {K : PySem.W.Frag} {n : Nat} {H H' : Hp} {v : V} {L : List Nat} (s : Same H H') (h : LeastV K n H v L) : LeastV K n H' v L := by
  cases L with
  | nil => exact h
  | cons x L => exact BitsV.same s h
def duoD (n : Nat) (L : List Nat) : PyData := .list [leastD n L, .int (L.length : Int)]
def dueD (n : Nat) (L : List Nat) : PyData := .list [.int (L.length : Int), leastD n L]
theorem duo_facts {n : Nat} (n12 : n ≤ 12) {L : List Nat} (l : L.length ≤ 4096) : (nice (duoD n L) = true ∧ (duoD n L).depth ≤ 40 ∧ (duoD n L).weight ≤ 2 ^ 20) ∧ nice (dueD n L) = true ∧ (dueD n L).depth ≤ 40 ∧ (dueD n L).weight ≤ 2 ^ 20 := by
  obtain ⟨g1, g2, g3⟩ := leastD_facts n12 L
  have i1 : nice (.int (L.length : Int)) = true := decide_eq_true (by show (L.length : Int).natAbs < 10 ^ 12; omega)
  have i2 : (PyData.int (L.length : Int)).depth = 0 := rfl
  have i3 : (PyData.int (L.length : Int)).weight ≤ 13 := weight_int (by show (L.length : Int).natAbs < 2 ^ 13; omega)
  refine ⟨⟨?_, ?_, ?_⟩, ?_, ?_, ?_⟩
  · show (nice (leastD n L) && (nice (.int (L.length : Int)) && true)) = true
    rw [g1, i1]
    rfl
  · show max (leastD n L).depth (max (PyData.int (L.length : Int)).depth 0) + 1 ≤ 40
    omega
  · show (leastD n L).weight + 1 + ((PyData.int (L.length : Int)).weight + 1 + 0) ≤ 2 ^ 20
    omega
  · show (nice (.int (L.length : Int)) && (nice (leastD n L) && true)) = true
    rw [g1, i1]
    rfl
  · show max (PyData.int (L.length : Int)).depth (max (leastD n L).depth 0) + 1 ≤ 40
    omega
  · show (PyData.int (L.length : Int)).weight + 1 + ((leastD n L).weight + 1 + 0) ≤ 2 ^ 20
    omega
theorem plL_bits {n x : Nat} {cs : List (List (Nat × Nat))} (hx : BitsOf (2 ^ n) x (kpB n cs)) : BitsOf (2 ^ n) x (fun s => lnB n [] s && kpB n cs s) := hx
theorem cnt_plL {n x : Nat} {cs : List (List (Nat × Nat))} (hx : BitsOf (2 ^ n) x (kpB n cs)) : cntB (2 ^ n) x = (plL n cs []).length := by
  unfold cntB plL
  rw [bits_list (plL_bits hx)]
theorem least_use {K : PySem.W.Frag} {n x : Nat} {cs : List (List (Nat × Nat))} {H : Hp} {Q : VK} (hx : BitsOf (2 ^ n) x (kpB n cs)) (k : ∀ H' u, Same H H' → LeastV K n H' u (plL n cs []) → Q u H') :
    (x = 0 → Q .non H) ∧ (∀ s, x.testBit s = true → (∀ j, j < s → x.testBit j = false) → ∀ H' u, Same H H' → BitsV K n H' u s → Q u H') := by
  constructor
  · intro z
    refine k H .non (Same.refl _) ?_
    have e : plL n cs [] = [] := by
      unfold plL
      rw [bits_list (plL_bits hx), z]
      exact List.filter_eq_nil_iff.mpr fun s _ => by rw [Nat.zero_testBit]; exact Bool.false_ne_true
    rw [e]
    rfl
  · intro s h1 h2 H' u sm hb
    refine k H' u sm ?_
    cases q : plL n cs [] with
    | nil =>
      have := bits_nil (plL_bits hx) q
      rw [this, Nat.zero_testBit] at h1
      cases h1
    | cons t L =>
      obtain ⟨_, t1, t2, _⟩ := bits_head (plL_bits hx) q
      have e : t = s := by
        rcases Nat.lt_trichotomy t s with z | z | z
        · rw [h2 t z] at t1
          cases t1
        · exact z
        · rw [t2 s z] at h1
          cases h1
      rw [e]
      exact hb
theorem least_rev {K : PySem.W.Frag} {n x : Nat} {cs : List (List (Nat × Nat))} {H : Hp} {Q : VK} (hx : BitsOf (2 ^ n) x (kpB n cs)) (k : ∀ H' u, Same H H' → LeastV K n H' u (plL n cs []) → Q u H') :
    (∀ s, x.testBit s = true → (∀ j, j < s → x.testBit j = false) → ∀ H' u, Same H H' → BitsV K n H' u s → Q u H') ∧ (x = 0 → Q .non H) := And.symm (least_use hx k)
end Es
set_option Elab.async false
set_option linter.all false
set_option maxRecDepth 100000
set_option maxHeartbeats 4000000
namespace Es
open PySem PySem.Spec PyProof.Rows L2
structure HullOf (n : Nat) (L : List Nat) (gs : List (Nat × Nat × Nat)) : Prop where
  flat : FlatOk gs
  lt : ∀ e ∈ gs, e.2.1 < 2 ^ n
  at_ : ∀ s ∈ L, sol gs (fS n s)
  all : ∀ l : Nat × Nat, l.1 < 2 ^ n → l.2 < 2 → (∀ s ∈ L, holdsL l (fS n s)) → ∀ f, sol gs f → holdsL l f
theorem holds_on {n : Nat} {l : Nat × Nat} {f g : Nat → Bool} (hl : l.1 < 2 ^ n) (h : ∀ u, u < n → f u = g u) : holdsL l f ↔ holdsL l g := by
  unfold holdsL
  rw [par_on fun u hu => h u (Nat.lt_of_not_le fun z => by
    rw [Nat.testBit_lt_two_pow (Nat.lt_of_lt_of_le hl (Nat.pow_le_pow_right (by decide) z))] at hu
    cases hu)]
theorem place_of (n : Nat) (f : Nat → Bool) : ∃ s, s < 2 ^ n ∧ ∀ u, u < n → fS n s u = f u := by
  have nd : ((List.range n).filter f).Nodup := List.Pairwise.filter _ List.nodup_range
  have lt : ∀ v ∈ (List.range n).filter f, v < n := fun v hv => List.mem_range.mp (List.mem_filter.mp hv).1
  refine ⟨_, msk_ex_lt nd lt, fun u hu => ?_⟩
  rw [fS_msk nd lt, Bool.eq_iff_iff, decide_eq_true_eq, List.mem_filter, List.mem_range]
  exact ⟨fun h => h.2, fun h => ⟨hu, h⟩⟩
theorem sol_all {hs : List (Nat × Nat × Nat)} (F : FlatOk hs) (f : Nat → Bool) : sol hs f ↔ ∀ l ∈ canon hs, holdsB l f = true := by
  rw [← List.all_eq_true, all_canon F]
theorem hb_xor {l k : Nat × Nat} (hl : l.2 < 2) (hk : k.2 < 2) (f : Nat → Bool) : holdsB (l.1 ^^^ k.1, l.2 ^^^ k.2) f = (holdsB l f == holdsB k f) := by
  unfold holdsB
  rw [par_xor, bit_dec hl hk]
  cases par l.1 f <;> cases par k.1 f <;> cases decide (l.2 = 1) <;> cases decide (k.2 = 1) <;> rfl
theorem holds_three {l : Nat × Nat} (f g h : Nat → Bool) : holdsB l (fun u => (f u ^^ g u) ^^ h u) = ((holdsB l f == holdsB l g) == holdsB l h) := by
  unfold holdsB
  rw [par_fxor, par_fxor]
  cases par l.1 f <;> cases par l.1 g <;> cases par l.1 h <;> cases decide (l.2 = 1) <;> rfl
def wrongL (hs : List (Nat × Nat × Nat)) (n s : Nat) : List (Nat × Nat) := (canon hs).filter fun l => !holdsB l (fS n s)
def rightL (hs : List (Nat × Nat × Nat)) (n s : Nat) : List (Nat × Nat) := (canon hs).filter fun l => holdsB l (fS n s)
theorem canonM {n : Nat} {hs : List (Nat × Nat × Nat)} (F : FlatOk hs) (hlt : ∀ e ∈ hs, e.2.1 < 2 ^ n) : ∀ l ∈ canon hs, l.1 < 2 ^ n ∧ l.1 ≠ 0 ∧ l.2 < 2 := fun l hl => by
  unfold canon at hl
  obtain ⟨e, he, rfl⟩ := List.mem_map.mp hl
  have he := (byHead_perm F.red).mem_iff.mp he
  refine ⟨hlt e he, fun z => ?_, F.bit e he⟩
  have := (F.red.own e he).2.2
  rw [z, Nat.zero_testBit] at this
  cases this
theorem hull_keep {n s : Nat} {L : List Nat} {hs : List (Nat × Nat × Nat)} (h : HullOf n L hs) (w : wrongL hs n s = []) : HullOf n (L ++ [s]) hs := by
  refine ⟨h.flat, h.lt, fun t ht => ?_, fun l h1 h2 h3 => h.all l h1 h2 fun t ht => h3 t (List.mem_append_left _ ht)⟩
  rcases List.mem_append.mp ht with z | z
  · exact h.at_ t z
  · rw [List.mem_singleton.mp z, sol_all h.flat]
    intro l hl
    have := List.filter_eq_nil_iff.mp w l hl
    simpa using this
theorem hull_widen {n s : Nat} {L : List Nat} {hs : List (Nat × Nat × Nat)} (n62 : n ≤ 62) (h : HullOf n L hs) (n0 : L ≠ []) {w0 : Nat × Nat} {ws : List (Nat × Nat)} (w : wrongL hs n s = w0 :: ws) :
    ∃ gs, lflat (rightL hs n s ++ ws.map fun l => (w0.1 ^^^ l.1, w0.2 ^^^ l.2)) = some gs ∧ HullOf n (L ++ [s]) gs := by
  have cm := canonM h.flat h.lt
  have mw : ∀ l ∈ w0 :: ws, l ∈ canon hs ∧ holdsB l (fS n s) = false := fun l hl => by
    rw [← w] at hl
    have := List.mem_filter.mp hl
    exact ⟨this.1, by simpa using this.2⟩
  have mr : ∀ l ∈ rightL hs n s, l ∈ canon hs ∧ holdsB l (fS n s) = true := fun l hl => List.mem_filter.mp hl
  have split : ∀ l ∈ canon hs, l ∈ rightL hs n s ∨ l ∈ w0 :: ws := fun l hl => by
    cases q : holdsB l (fS n s) with
    | true => exact .inl (List.mem_filter.mpr ⟨hl, q⟩)
    | false => exact .inr (by rw [← w]; exact List.mem_filter.mpr ⟨hl, by rw [q]; rfl⟩)
  obtain ⟨w0m, w0f⟩ := mw w0 List.mem_cons_self
  have w02 := (cm w0 w0m).2.2
  have ok : ∀ l ∈ rightL hs n s ++ ws.map fun l => (w0.1 ^^^ l.1, w0.2 ^^^ l.2), l.1 < 2 ^ n ∧ l.2 < 2 := fun l hl => by
    rcases List.mem_append.mp hl with z | z
    · exact ⟨(cm l (mr l z).1).1, (cm l (mr l z).1).2.2⟩
    · obtain ⟨k, hk, rfl⟩ := List.mem_map.mp z
      have ck := cm k (mw k (List.mem_cons_of_mem _ hk)).1
      exact ⟨Nat.xor_lt_two_pow (cm w0 w0m).1 ck.1, bit_xor w02 ck.2.2⟩
  have ok63 := two63 n62 ok
  have iff : ∀ f, (∀ l ∈ rightL hs n s ++ ws.map (fun l => (w0.1 ^^^ l.1, w0.2 ^^^ l.2)), holdsL l f) ↔ (∀ l ∈ rightL hs n s, holdsB l f = true) ∧ ∀ l ∈ ws, holdsB l f = holdsB w0 f := fun f => by
    constructor
    · intro k
      refine ⟨fun l hl => holdsB_iff.mpr (k l (List.mem_append_left _ hl)), fun l hl => ?_⟩
      have := holdsB_iff.mpr (k _ (List.mem_append_right _ (List.mem_map.mpr ⟨l, hl, rfl⟩)))
      rw [hb_xor w02 (cm l (mw l (List.mem_cons_of_mem _ hl)).1).2.2] at this
      exact (beq_iff_eq.mp this).symm
    · rintro ⟨k1, k2⟩ l hl
      rcases List.mem_append.mp hl with z | z
      · exact holdsB_iff.mp (k1 l z)
      · obtain ⟨k, hk, rfl⟩ := List.mem_map.mp z
        refine holdsB_iff.mp ?_
        rw [hb_xor w02 (cm k (mw k (List.mem_cons_of_mem _ hk)).1).2.2]
        exact beq_iff_eq.mpr (k2 k hk).symm
  have solS : ∀ l ∈ rightL hs n s ++ ws.map (fun l => (w0.1 ^^^ l.1, w0.2 ^^^ l.2)), holdsL l (fS n s) := (iff _).mpr ⟨fun l hl => (mr l hl).2, fun l hl => by rw [(mw l (List.mem_cons_of_mem _ hl)).2, w0f]⟩
  obtain ⟨a1, a2⟩ := lflat_sol _ ok63
  cases q : lflat (rightL hs n s ++ ws.map fun l => (w0.1 ^^^ l.1, w0.2 ^^^ l.2)) with
  | none => exact absurd solS (a2 q _)
  | some gs =>
    have sg : ∀ f, sol gs f ↔ (∀ l ∈ rightL hs n s, holdsB l f = true) ∧ ∀ l ∈ ws, holdsB l f = holdsB w0 f := fun f => (a1 gs q f).trans (iff f)
    refine ⟨gs, rfl, lflat_flat _ ok63 gs q, lflat_lt (by omega) _ ok gs q, fun t ht => ?_, fun l h1 h2 h3 f hf => ?_⟩
    · rcases List.mem_append.mp ht with z | z
      · have k := (sol_all h.flat _).mp (h.at_ t z)
        exact (sg _).mpr ⟨fun l hl => k l (mr l hl).1, fun l hl => by rw [k l (mw l (List.mem_cons_of_mem _ hl)).1, k w0 w0m]⟩
      · rw [List.mem_singleton.mp z]
        exact (a1 gs q _).mpr solS
    · obtain ⟨k1, k2⟩ := (sg f).mp hf
      have k2 : ∀ l ∈ w0 :: ws, holdsB l f = holdsB w0 f := fun l hl => by
        rcases List.mem_cons.mp hl with rfl | hl
        · rfl
        · exact k2 l hl
      have hL : ∀ t ∈ L, holdsL l (fS n t) := fun t ht => h3 t (List.mem_append_left _ ht)
      cases c : holdsB w0 f with
      | true =>
        refine h.all l h1 h2 hL f ((sol_all h.flat f).mpr fun k hk => ?_)
        rcases split k hk with z | z
        · exact k1 k z
        · rw [k2 k z, c]
      | false =>
        obtain ⟨t, ht⟩ := List.exists_mem_of_ne_nil L n0
        have kt := (sol_all h.flat _).mp (h.at_ t ht)
        have hq : sol hs (fun u => (f u ^^ fS n s u) ^^ fS n t u) := (sol_all h.flat _).mpr fun k hk => by
          rw [holds_three, kt k hk]
          rcases split k hk with z | z
          · rw [k1 k z, (mr k z).2]
            rfl
          · rw [k2 k z, c, (mw k z).2]
            rfl
        have r := holdsB_iff.mpr (h.all l h1 h2 hL _ hq)
        have rs := holdsB_iff.mpr (h3 s (List.mem_append_right _ (List.mem_singleton.mpr rfl)))
        have rt := holdsB_iff.mpr (hL t ht)
        rw [holds_three, rs, rt] at r
        refine holdsB_iff.mp ?_
        cases c2 : holdsB l f with
        | true => rfl
        | false => rw [c2] at r; cases r
theorem hull_uniq {n : Nat} {L : List Nat} {gs ks : List (Nat × Nat × Nat)} (h : HullOf n L gs) (k : HullOf n L ks) : canon gs = canon ks := by
  refine canon_uniq h.flat k.flat fun f => ⟨fun hf e he => ?_, fun hf e he => ?_⟩
  · exact h.all e.2 (k.lt e he) (k.flat.bit e he) (fun s hs => k.at_ s hs e he) f hf
  · exact k.all e.2 (h.lt e he) (h.flat.bit e he) (fun s hs => h.at_ s hs e he) f hf
theorem hull_common {n : Nat} {L : List Nat} {cl : List (Nat × Nat)} (n62 : n ≤ 62) (n0 : L ≠ []) (h1 : ∀ l ∈ cl, l.1 < 2 ^ n ∧ l.2 < 2) (h2 : ∀ l ∈ cl, ∀ s ∈ L, holdsL l (fS n s)) (h3 : ∀ l : Nat × Nat, l.1 < 2 ^ n → l.1 ≠ 0 → l.2 < 2 → (∀ s ∈ L, holdsL l (fS n s)) → l ∈ cl) :
    ∃ gs, lflat cl = some gs ∧ HullOf n L gs := by
  have ok63 := two63 n62 h1
  obtain ⟨a1, a2⟩ := lflat_sol _ ok63
  cases q : lflat cl with
  | none =>
    obtain ⟨t, ht⟩ := List.exists_mem_of_ne_nil L n0
    exact absurd (fun l hl => h2 l hl t ht) (a2 q (fS n t))
  | some gs =>
    have F := lflat_flat _ ok63 gs q
    refine ⟨gs, rfl, F, lflat_lt (by omega) _ h1 gs q, fun s hs => (a1 gs q _).mpr fun l hl => h2 l hl s hs, fun l l1 l2 l3 f hf => ?_⟩
    by_cases z : l.1 = 0
    · obtain ⟨t, ht⟩ := List.exists_mem_of_ne_nil L n0
      exact (holds_on (n := 0) (by rw [z]; decide) (fun u hu => absurd hu (Nat.not_lt_zero _))).mp (l3 t ht)
    · exact (a1 gs q f).mp hf l (h3 l l1 z l2 l3)
theorem hull_places {n : Nat} {hs : List (Nat × Nat × Nat)} (F : FlatOk hs) (hlt : ∀ e ∈ hs, e.2.1 < 2 ^ n) : HullOf n (places n hs) hs ∧ places n hs ≠ [] := by
  obtain ⟨p1, p2, _⟩ := plZ_in F hlt
  have mem : ∀ {s}, s ∈ places n hs ↔ s < 2 ^ n ∧ inF n hs s = true := fun {s} => by
    unfold places
    rw [List.mem_filter, List.mem_range]
  have ins : ∀ {s}, inF n hs s = true ↔ sol hs (fS n s) := fun {s} => by
    unfold inF
    exact all_canon F _
  refine ⟨⟨F, hlt, fun s h => ins.mp (mem.mp h).2, fun l h1 h2 h3 f hf => ?_⟩, fun z => ?_⟩
  · obtain ⟨s, hs', e⟩ := place_of n f
    refine (holds_on h1 e).mp (h3 s (mem.mpr ⟨hs', ins.mpr fun g hg => ?_⟩))
    exact (holds_on (hlt g hg) e).mpr (hf g hg)
  · have : plZ n hs ∈ places n hs := mem.mpr ⟨p1, p2⟩
    rw [z] at this
    cases this
def pointF (n s : Nat) : List (Nat × Nat × Nat) := (List.range n).map fun u => (u, 2 ^ u, (bitsS n s).getD u 0)
theorem byHead_asc {hs : List (Nat × Nat × Nat)} (R : RedOk hs) (asc : (hs.map (·.1)).Pairwise (· < ·)) : byHead hs = hs := by
  have k := srt_lt (hs.map (·.1))
  rw [← byHead_keys] at k
  exact List.Perm.eq_of_pairwise (le := fun a b : Nat × Nat × Nat => a.1 < b.1) (fun a b _ _ h1 h2 => absurd h1 (Nat.lt_asymm h2)) (List.pairwise_map.mp k) (List.pairwise_map.mp asc) (byHead_perm R)
theorem pointF_flat {n s : Nat} (n62 : n ≤ 62) : FlatOk (pointF n s) ∧ canon (pointF n s) = (List.range n).map fun u => (2 ^ u, (bitsS n s).getD u 0) := by
  have mem : ∀ e ∈ pointF n s, ∃ u, u < n ∧ e = (u, 2 ^ u, (bitsS n s).getD u 0) := fun e he => by
    obtain ⟨u, hu, rfl⟩ := List.mem_map.mp he
    exact ⟨u, List.mem_range.mp hu, rfl⟩
  have keys : (pointF n s).map (·.1) = List.range n := by
    unfold pointF
    rw [List.map_map]
    exact List.map_id' _
  have R : RedOk (pointF n s) := by
    refine ⟨by rw [keys]; exact List.nodup_range, fun e he => ?_, fun e he h _ ne => ?_⟩
    · obtain ⟨u, hu, rfl⟩ := mem e he
      exact ⟨by show u < 63; omega, Nat.pow_lt_pow_right (by decide) (by omega), by rw [Nat.testBit_two_pow]; exact decide_eq_true rfl⟩
    · obtain ⟨u, hu, rfl⟩ := mem e he
      rw [Nat.testBit_two_pow]
      exact decide_eq_false fun z => ne z.symm
  refine ⟨⟨R, fun e he => ?_, fun e he => ?_⟩, ?_⟩
  · obtain ⟨u, hu, rfl⟩ := mem e he
    refine low_iff.mpr ⟨by show u < 63; omega, by show (2 ^ u).testBit u = true; rw [Nat.testBit_two_pow]; exact decide_eq_true rfl, fun j hj => ?_⟩
    show (2 ^ u).testBit j = false
    rw [Nat.testBit_two_pow]
    have hj : j < u := hj
    exact decide_eq_false (by omega)
  · obtain ⟨u, hu, rfl⟩ := mem e he
    show (bitsS n s).getD u 0 < 2
    rw [List.getD_eq_getElem?_getD]
    cases q : (bitsS n s)[u]? with
    | none => exact Nat.zero_lt_two
    | some b => exact bitsS_lt n s b (List.mem_of_getElem? q)
  · unfold canon
    rw [byHead_asc R (by rw [keys]; exact List.pairwise_lt_range)]
    unfold pointF
    rw [List.map_map]
    rfl
theorem pointF_hull {n s : Nat} (n62 : n ≤ 62) : HullOf n [s] (pointF n s) := by
  obtain ⟨F, _⟩ := pointF_flat (s := s) n62
  have one : ∀ u, u < n → ∀ f, holdsL (2 ^ u, (bitsS n s).getD u 0) f ↔ f u = fS n s u := fun u hu f => by
    unfold holdsL
    rw [par_single (h := u) (by omega) fun v hv => by rw [Nat.testBit_two_pow, decide_eq_false (Ne.symm hv), Bool.false_and], Nat.testBit_two_pow, decide_eq_true (p := u = u) rfl, Bool.true_and, bitsS_getD]
    rw [fS_eq hu]
    unfold G8 ex
    rw [decide_eq_true hu, Bool.true_and]
  refine ⟨F, fun e he => ?_, fun t ht e he => ?_, fun l h1 h2 h3 f hf => ?_⟩
  · obtain ⟨u, hu, rfl⟩ := List.mem_map.mp he
    exact Nat.pow_lt_pow_right (by decide) (List.mem_range.mp hu)
  · obtain ⟨u, hu, rfl⟩ := List.mem_map.mp he
    rw [List.mem_singleton.mp ht]
    exact (one u (List.mem_range.mp hu) _).mpr rfl
  · refine (holds_on h1 fun u hu => ?_).mpr (h3 s (List.mem_singleton.mpr rfl))
    have m : ((u, 2 ^ u, (bitsS n s).getD u 0) : Nat × Nat × Nat) ∈ pointF n s := List.mem_map.mpr ⟨u, List.mem_range.mpr hu, rfl⟩
    have t : holdsL ((u, 2 ^ u, (bitsS n s).getD u 0) : Nat × Nat × Nat).2 f := hf _ m
    generalize hb : (bitsS n s).getD u 0 = b at t one
    have o := one u hu f
    rw [hb] at o
    exact o.mp t
end Es
set_option Elab.async false
set_option linter.all false
set_option maxRecDepth 100000
set_option maxHeartbeats 4000000
namespace Es
open PySem PySem.Spec PyProof.Rows L2
def sp_widened (K : PySem.W.Frag) : Sp := fun vs H Q _ => ∃ (v : V) (b : Addr) (n s : Nat) (L : List Nat) (hs : List (Nat × Nat × Nat)), vs = [v, .ref b] ∧ n ≤ 12 ∧ FlatV K H v hs ∧ HullOf n L hs ∧ L ≠ [] ∧ SqT K H b (iv (bitsS n s)) ∧
  ∀ H' u gs, Same H H' → FlatV K H' u gs → HullOf n (L ++ [s]) gs → Q u H'
def sp_least_flat (K : PySem.W.Frag) : Sp := fun vs H Q _ => ∃ (a : Addr) (us : List V) (n : Nat) (L : List Nat), vs = [.ref a] ∧ n ≤ 12 ∧ Sq K H a us ∧ Paired (BitsV K n H) us L ∧ L ≠ [] ∧
  ∀ H' u gs, Same H H' → FlatV K H' u gs → HullOf n L gs → Q u H'
def sp_law_common_flat (K : PySem.W.Frag) : Sp := fun vs H Q _ => ∃ (a : Addr) (us : List V) (n : Nat) (L : List Nat), vs = [.int (n : Int), .ref a] ∧ n ≤ 5 ∧ Sq K H a us ∧ Paired (BitsV K n H) us L ∧ L ≠ [] ∧ L.length ≤ 60 ∧
  ∀ H' u gs, Same H H' → FlatV K H' u gs → HullOf n L gs → Q u H'
def sp_law_is_least_right (K : PySem.W.Frag) : Sp := fun vs H Q _ => ∃ (b c : Addr) (n : Nat), vs = [.ref b, .int (n : Int)] ∧ BagAt K H b c ∧ n ≤ 5 ∧
  ∀ H', But b H H' → BagAt K H' b c → Q (.bl true) H'
theorem ix_use {K : PySem.W.Frag} {H : Hp} {a : Addr} {xs : List V} {i : Int} {v : V} {Q : VK} {C : Prop} (h : Sq K H a xs) (e : atI xs i = some v) (q : Q v H) : rIxL K (.ref a) (.int i) H Q ∨ rIxT K (.ref a) (.int i) H Q ∨ C := by
  rcases h with h | h
  · exact .inl ⟨a, xs, i, v, rfl, rfl, h, e, q⟩
  · exact .inr (.inl ⟨a, xs, i, v, rfl, rfl, h, e, q⟩)
theorem sqL_same {K : PySem.W.Frag} {H H' : Hp} {a : Addr} {xs : List V} (s : Same H H') (h : SqL K H a xs) : SqL K H' a xs := by
  rcases h with (h | ⟨o, h⟩) | h
  · exact .inl (.inl (s _ _ h))
  · exact .inl (.inr ⟨o, s _ _ h⟩)
  · exact .inr h
theorem cut_tail1 (xs : List V) : cutV xs (some (1 : Int)) none = xs.drop 1 := by
  unfold cutV
  have h0 : HT.sIx xs.length 0 (some 1) = min 1 xs.length := by
    show (if (1 : Int) < 0 then ((1 : Int) + (xs.length : Int)).toNat else min (1 : Int).toNat xs.length) = _
    rw [if_neg (by decide)]
    rfl
  have h1 : HT.sIx xs.length xs.length none = xs.length := rfl
  rw [h0, h1]
  cases xs with
  | nil => rfl
  | cons x r =>
    rw [List.length_cons, show min 1 (r.length + 1) = 1 by omega]
    show r.take (r.length + 1 - 1) = r
    rw [Nat.add_sub_cancel, List.take_length]
end Es
set_option Elab.async false
set_option linter.all false
set_option maxRecDepth 100000
set_option maxHeartbeats 4000000
namespace Es
open PySem PySem.Spec PyProof.Rows L2
def SeqIt (K : PySem.W.Frag) (H : Hp) (a : Addr) (xs : List V) (J : It) : Prop := (J = Itl K a ∧ SqL K H a xs) ∨ (J = Itt K a ∧ SqT K H a xs)
theorem seq_iter {K : PySem.W.Frag} {σ : L2.St} {H : Hp} {R : It → Hp → Prop} {i : Nat} {a : Addr} {xs : List V} (hv : σ[i]? = some (some (.ref a))) (hS : Sq K H a xs) (k : ∀ J, SeqIt K H a xs J → R J H) : iOr (iList K (tVar i)) (iTup K (tVar i)) σ H R := by
  rcases hS with h | h
  · exact .inl ⟨.ref a, hv, a, rfl, ⟨xs, h⟩, k _ (.inl ⟨rfl, h⟩)⟩
  · exact .inr ⟨.ref a, hv, a, rfl, ⟨xs, h⟩, k _ (.inr ⟨rfl, h⟩)⟩
theorem lc_seq {K : PySem.W.Frag} {H0 : Hp} {J : It} {a : Addr} {xs : List V} {g : TG} {tt : TT} {te : TE} {vs : List Nat} {σ : L2.St} {H1 : Hp} {D : Addr} {Qd : Hp → Prop} (sj : SeqIt K H0 a xs J) (Pv : Nat → Hp → Prop) (h0 : Pv 0 (upd H1 D (.lst []))) (hl : ∀ i H, Pv i H → Same H0 H)
    (hs : ∀ i x H, xs[i]? = some x → Pv i H → g x (wipe σ vs) H fun σ2 H2 => wipe σ2 vs = wipe σ vs ∧ tt σ2 H2 fun b H3 =>
      if b = true then te σ2 H3 fun y H4 => ∃ acc, H4 D = some (.lst acc) ∧ acc.length < sizeLine ∧ Pv (i + 1) (upd H4 D (.lst (acc ++ [y]))) else Pv (i + 1) H3) (hd : ∀ H, Pv xs.length H → Qd H) :
    ∃ W : Nat → Nat → Hp → Prop, (∃ m, W 0 m (upd H1 D (.lst []))) ∧ ∀ i m H, W i m H →
      (J.stop i H ∧ Qd H) ∨ (J.go i H ∧ ∃ Nx : Hp → Prop, (∀ H', Nx H' → ∃ m', m' < m ∧ W (i + 1) m' H') ∧ ∀ x H', J.yld i H x H' → g x (wipe σ vs) H' fun σ2 H2 => wipe σ2 vs = wipe σ vs ∧ tt σ2 H2 fun b H3 =>
        if b = true then te σ2 H3 fun y H4 => ∃ acc, H4 D = some (.lst acc) ∧ acc.length < sizeLine ∧ Nx (upd H4 D (.lst (acc ++ [y]))) else Nx H3) := by
  rcases sj with ⟨rfl, h⟩ | ⟨rfl, h⟩
  · exact lc_list Pv h0 (fun i H _ p => sqL_same (hl i H p) h) hs hd
  · exact lc_tup Pv h0 (fun i H _ p => sqT_same (hl i H p) h) hs hd
theorem for_seq {K : PySem.W.Frag} {H0 : Hp} {J : It} {a : Addr} {xs : List V} {g : TG} {tb : TS} {D : Ends} {σ : L2.St} {H : Hp} (sj : SeqIt K H0 a xs J) (Pv : Nat → L2.St → Hp → Prop) (h0 : Pv 0 σ H) (hl : ∀ i σ H, Pv i σ H → Same H0 H)
    (hs : ∀ i x σ H, xs[i]? = some x → Pv i σ H → g x σ H fun σ2 H2 => tb { D with nx := Pv (i + 1), ct := Pv (i + 1), bk := D.nx } σ2 H2) (hd : ∀ σ H, Pv xs.length σ H → D.nx σ H) :
    ∃ W : Nat → Nat → L2.St → Hp → Prop, (∃ m, W 0 m σ H) ∧ ∀ i m σ H, W i m σ H →
      (J.stop i H ∧ D.nx σ H) ∨ (J.go i H ∧ ∃ N : L2.St → Hp → Prop, (∀ σ' H', N σ' H' → ∃ m', m' < m ∧ W (i + 1) m' σ' H') ∧ ∀ x H', J.yld i H x H' → g x σ H' fun σ2 H2 => tb { D with nx := N, ct := N, bk := D.nx } σ2 H2) := by
  rcases sj with ⟨rfl, h⟩ | ⟨rfl, h⟩
  · exact for_list Pv h0 (fun i σ H _ p => sqL_same (hl i σ H p) h) hs hd
  · exact for_tup Pv h0 (fun i σ H _ p => sqT_same (hl i σ H p) h) hs hd
end Es
set_option Elab.async false
set_option linter.all false
set_option maxRecDepth 100000
set_option maxHeartbeats 4000000
namespace Es
open PySem PySem.Spec PyProof.Rows L2
section
variable {P : Program} {w : World} {A : Around} {E : Value → Shared → Prop} {s : Shared}
theorem set_of_ints {l : Addr} {its : Array Value} (ns : List Int) {Q : Value → Shared → Prop} (hh : A.handled = none) (ht : s.heap.IsList l its) (hit : IntsAre its.toList ns) (few : ns.length + 1 < scanBound)
    (hQ : ∀ (h' : Heap) (tk c : Nat), SetR w h' s.heap.objs.size (fun j => decide (j ∈ ns)) c → c ≤ ns.length → (∀ b o, s.heap.get? b = some o → h'.get? b = some o) → Q (.ref s.heap.objs.size) { s with heap := h', toks := tk }) :
    wpAny (model P w) A (call (.type "set") [.ref l]) Q E s := by
  have cnt : its.size = ns.length := by
    have q := IntsAre.length hit
    rw [Array.length_toList] at q
    exact q
  have pick : ∀ (i : Nat) (v : Value), its[i]? = some v → ∃ k t, ns[i]? = some k ∧ v = .int k t := fun i v hv => by
    have hi : i < ns.length := by rw [← cnt]; exact (Array.getElem?_eq_some_iff.mp hv).1
    obtain ⟨t, e⟩ := PyProof.Rows.IntsAre.int_at hit i v (by rw [Array.getElem?_toList]; exact hv)
    rw [List.getD_eq_getElem?_getD, List.getElem?_eq_getElem hi] at e
    exact ⟨ns[i], t, List.getElem?_eq_getElem hi, e⟩
  obtain ⟨c, tl, hmro⟩ := PySem.F.called_set.mro
  have made := PySem.F.called_set.made
  have subT := PySem.F.called_set.sub
  refine wpAny_call (codeAny_of_tree ?_)
  show wpAny _ _ (callAny (.type "set") _) _ _ _
  refine wpAny_pure ⟨Code.quiet_builtin _ (by decide +kernel), codeAny_builtin PySem.F.entry_type_call ?_⟩
  rw [Around.under_plain (weight_type_call_type "set" [.ref l] []) rfl]
  have noT := PySem.F.called_set.notType
  have can := PySem.F.called_set.canCreate
  have tc := PySem.F.typeCall_set_1 (.ref l)
  repeat (any_goals (first | assumption | wp_step))
  refine codeAny_mono (code_set_led1 (.ref l) (E := E) (Q₁ := fun v u => v = .ref s.heap.objs.size ∧ u = { s with heap := s.heap.push (Bare w) }) ⟨rfl, rfl⟩) fun r u hr => ?_
  rcases r with er | fl
  · exact hr
  cases fl with
  | ret v =>
    obtain ⟨e1, e2⟩ := hr
    subst e1 e2
    have got : (s.heap.push (Bare w)).get? s.heap.objs.size = some (Bare w) := Heap.get?_push_size _ rfl
    have ty : Shared.TypeIs { s with heap := s.heap.push (Bare w) } (.ref s.heap.objs.size) "set" := ⟨_, got, rfl⟩
    have look := PySem.F.called_set.init.lookup
    have bnd := PySem.F.called_set.init.bind (.ref s.heap.objs.size)
    repeat (any_goals (first | assumption | wp_step))
    refine codeAny_mono (codeAny_call_builtin (R := wants (fun r u => r = .none ∧ ∃ h' tk c, u = { s with heap := h', toks := tk } ∧ (SetR w h' s.heap.objs.size (fun j => decide (j ∈ ns)) c ∧ c ≤ ns.length) ∧ ∀ b o, s.heap.get? b = some o → h'.get? b = some o) E)
      PySem.F.called_set.init.plain PySem.F.entry_set_init (check_set_init_1 ty ?_)) fun r u hr => ?_
    · obtain ⟨o, ho, hc, nl, hd⟩ := ht
      have lt := Heap.lt_size ho
      obtain ⟨ocls, odict, odata, oslots⟩ := o
      dsimp only at hc hd
      subst hc hd
      have inT : (s.heap.push (Bare w)).IsList l its := ⟨_, Heap.get?_push_of_some _ ho, rfl, nl, rfl⟩
      have ho2 : (s.heap.push (Bare w)).get? l = some { cls := .type "list", dict := odict, data := .seq its nl, slots := oslots } := Heap.get?_push_of_some _ ho
      have sub1 := PySem.F.sub_list_set
      have sub2 := PySem.F.sub_list_frozenset
      have noD : (Value.type "list" == Value.type "dict") = false := by decide
      unfold Builtin.«set.__init__» noKeywords Builtin.Frozenset.updateFrom
      generalize walkIt : pyIter = PI
      wp_walk
      subst walkIt
      refine wpAny_pyIter_list inT ?_
      refine wpAny_bind (wpAny_runValue ?_)
      have hh3 : A.in1.in1.in1.handled = none := by simp [hh]
      have sz : (s.heap.push (Bare w)).objs.size = s.heap.objs.size + 1 := Heap.size_push ..
      have apart : l ≠ (s.heap.push (Bare w)).objs.size := by rw [sz]; exact Nat.ne_of_lt (Nat.lt_succ_of_lt lt)
      have out : s.heap.objs.size ∉ [(s.heap.push (Bare w)).objs.size, l] := by
        rw [sz]
        intro z
        rcases List.mem_cons.mp z with z | z
        · exact Nat.ne_of_lt (Nat.lt_succ_self _) z
        · exact Nat.ne_of_gt lt (List.mem_singleton.mp z)
      refine set_update_ints (Walks.list hh3 _ l apart its).toS s.heap.objs.size out ns cnt few pick (its.size - 0) 0 _ (by omega) (Nat.zero_le _)
        ⟨⟨_, Heap.get?_push_size _ rfl, rfl, rfl⟩, inT.push _⟩ ⟨0, Nat.le_refl 0, setR_new_at (Heap.get?_push_of_some _ got)⟩ ?_
      intro u c mv hc hR
      obtain ⟨h', g2, d2, tk, os2⟩ := u
      have e1 : g2 = s.gens := mv.gens
      have e2 : d2 = s.drawn := mv.drawn
      have e3 : os2 = s.os := mv.os
      subst e1 e2 e3
      rw [cnt] at hc
      show wpAny _ _ _ _ _ _
      refine wpAny_pure ?_
      show wpAny _ _ (ret Value.none) _ _ _
      refine wpAny_pure ⟨rfl, h', tk, c, rfl, ⟨hR, hc⟩, fun b o e => ?_⟩
      have hb := Heap.lt_size e
      refine mv.heap b o (fun z => ?_) (Heap.get?_push_of_some _ (Heap.get?_push_of_some _ e))
      rcases List.mem_cons.mp z with z | z
      · exact Nat.ne_of_lt hb z
      · have := List.mem_singleton.mp z
        rw [sz] at this
        exact Nat.ne_of_lt (Nat.lt_succ_of_lt hb) this
    · rcases r with er | fl
      · exact hr
      cases fl with
      | ret v =>
        obtain ⟨e1, h', tk, c, e2, ⟨hR, hc⟩, kp⟩ := hr
        subst e1 e2
        repeat (any_goals (first | assumption | wp_step))
        exact hQ _ _ _ hR hc kp
      | _ => exact hr.elim
  | _ => exact hr.elim
end
def rSetIL (K : PySem.W.Frag) (w : World) : List V → Hp → VK → Prop := fun xs H Q =>
  ∃ (a : Addr) (ns : List Int), xs = [.ref a] ∧ SqL K H a (ns.map V.int) ∧ ns.length ≤ 1000 ∧
    ∀ p c, H p = none → c ≤ ns.length → Q (.ref p) (upd H p (SetO w p (fun j => decide (j ∈ ns)) c))
theorem cr_setL {X : Cx} (hc : X.calm = true) : CallR X (.type "set") (rSetIL X.K X.w) := by
  intro pins s σ H xs us Q I r h
  obtain ⟨a, ns, rfl, ht, hl, q⟩ := h
  rw [Vals.ref1 r]
  obtain ⟨its, rv, pt, hz⟩ := I.list ht
  have hi : IntsAre its.toArray.toList ns := ints_of_vals rv
  refine set_of_ints ns (I.ok.hd hc) pt.isList hi (by unfold scanBound; omega) ?_
  intro h' tk c R1 hcn kp
  refine ⟨.ref s.heap.objs.size, upd H s.heap.objs.size (SetO X.w s.heap.objs.size (fun j => decide (j ∈ ns)) c), ?_, rfl, q _ c (I.hok.fresh (Nat.le_refl _)) hcn⟩
  exact I.laid (t' := tk) kp (Nat.le_refl _) (setO_new R1)
end Es
set_option Elab.async false
set_option linter.all false
set_option maxRecDepth 100000
set_option maxHeartbeats 4000000
namespace Es
open PySem PySem.Spec PyProof.Rows L2
def ItemOk (K : PySem.W.Frag) (n : Nat) (hs : List (Nat × Nat × Nat)) (H : Hp) (q : V) : Prop := ∃ (qa a : Addr) (us : List V) (L : List Nat) (w : V) (ks : List (Nat × Nat × Nat)), q = .ref qa ∧ SqT K H qa [.ref a, w] ∧ Sq K H a us ∧ Paired (BitsV K n H) us L ∧ L ≠ [] ∧ (∀ s ∈ L, s ∈ places n hs) ∧ L.length ≤ 32 ∧ FlatV K H w ks ∧ HullOf n L ks
theorem ItemOk.same {K : PySem.W.Frag} {n : Nat} {hs : List (Nat × Nat × Nat)} {H H' : Hp} {q : V} (s : Same H H') (h : ItemOk K n hs H q) : ItemOk K n hs H' q := by
  obtain ⟨qa, a, us, L, w, ks, e, h1, h2, h3, h4, h5, h6, h7, h8⟩ := h
  exact ⟨qa, a, us, L, w, ks, e, sqT_same s h1, Sq.same s h2, Paired.mono2 (fun _ _ h => BitsV.same s h) h3, h4, h5, h6, h7.same s, h8⟩
theorem few_data {K : PySem.W.Frag} {n : Nat} {H : Hp} {a : Addr} {us : List V} {L : List Nat} (n12 : n ≤ 12) (hS : Sq K H a us) (hP : Paired (BitsV K n H) us L) (l : L.length ≤ 4096) : ∃ d, (∀ H', Same H H' → Dp K H' (.ref a) d) ∧ nice d = true ∧ d.depth ≤ 40 ∧ d.weight ≤ 2 ^ 20 := by
  obtain ⟨f1, f2, f3⟩ := bitsZ_facts n12 L l
  rcases hS with h | h
  · exact ⟨_, fun H' s => .lst (sqL_same s h) (dp_bitsL (Paired.mono2 (fun _ _ h => BitsV.same s h) hP)), f1, f2, f3⟩
  · exact ⟨.tuple (L.map (bitsD n)), fun H' s => .tup (sqT_same s h) (dp_bitsL (Paired.mono2 (fun _ _ h => BitsV.same s h) hP)), f1, f2, f3⟩
theorem hull_in {n : Nat} {L : List Nat} {hs gs : List (Nat × Nat × Nat)} (F : FlatOk hs) (hlt : ∀ e ∈ hs, e.2.1 < 2 ^ n) (h : HullOf n L gs) (hl : ∀ s ∈ L, s ∈ places n hs) : liesB gs (canon hs) = true := by
  rw [lies_iff h.flat F]
  intro f hf e he
  refine h.all e.2 (hlt e he) (F.bit e he) (fun s hs' => ?_) f hf
  have := hl s hs'
  unfold places at this
  have this := (List.mem_filter.mp this).2
  unfold inF at this
  exact (all_canon F _).mp this e he
theorem hull_all {n : Nat} {L : List Nat} {gs : List (Nat × Nat × Nat)} (h : HullOf n L gs) {s : Nat} (hs : s ∈ L) : ((canon gs).all fun l => decide (wsum l.1 (bitsS n s) % 2 = l.2)) = true := by
  rw [List.all_eq_true]
  intro l hl
  have cm := canonM h.flat h.lt l hl
  rw [wsum_holds cm.1 cm.2.2]
  exact (sol_all h.flat _).mp (h.at_ s hs) l hl
theorem no_false (k : Nat) : inV (.bl false) (List.replicate k (V.bl true)) = false := by
  unfold inV
  rw [List.any_eq_false]
  intro x hx
  rw [List.eq_of_mem_replicate hx]
  decide
theorem flat_trues (k : Nat) : (List.replicate k (V.bl true)).all flatV = true := by
  rw [List.all_eq_true]
  intro x hx
  rw [List.eq_of_mem_replicate hx]
  rfl
end Es
set_option Elab.async false
set_option linter.all false
set_option maxRecDepth 100000
set_option maxHeartbeats 4000000
namespace Es
open PySem PySem.Spec PyProof.Rows L2
abbrev NEnt := NestedKey × Addr × V
def NRel : NEnt → NestedKey × Addr × Value → Prop := fun p q => p.1 = q.1 ∧ p.2.1 = q.2.1 ∧ RelV p.2.2 q.2.2
def DictN0 (P : Program) (w : World) (h : Heap) (d : Addr) (L : List NEnt) : Prop :=
  L.length ≤ sizeLine ∧ (d == sysModules) = false ∧ (L.map (·.1)).Nodup ∧ ∃ xs : List (NestedKey × Addr × Value), Paired NRel L xs ∧
    ∃ o es ep, h.get? d = some o ∧ o.ExactDict ∧ o.data = .dict es ep ∧ es.toList = xs.map (entryOfKey (numKind P w))
def DictNO (P : Program) (w : World) (d : Addr) (L : List NEnt) : HO := .ext fun h => DictN0 P w h d L
def KeysN (K : PySem.W.Frag) (H : Hp) (L : List NEnt) : Prop := ∀ e ∈ L, KeyV K H (e.2.1, e.1)
theorem nrel_keys : ∀ {L : List NEnt} {xs : List (NestedKey × Addr × Value)}, Paired NRel L xs → xs.map (·.1) = L.map (·.1)
  | _, _, .nil => rfl
  | _, _, .cons h t => by rw [List.map_cons, List.map_cons, nrel_keys t, h.1]
theorem nrel_len : ∀ {L : List NEnt} {xs : List (NestedKey × Addr × Value)}, Paired NRel L xs → xs.length = L.length
  | _, _, .nil => rfl
  | _, _, .cons _ t => by rw [List.length_cons, List.length_cons, nrel_len t]
theorem nrel_is {P : Program} {w : World} {h : Heap} : ∀ {L : List NEnt} {xs : List (NestedKey × Addr × Value)}, Paired NRel L xs → (∀ e ∈ L, (numKind P w).is h e.1 e.2.1) → ∀ x ∈ xs, (numKind P w).is h x.1 x.2.1
  | _, _, .nil, _, x, hx => by cases hx
  | _, _, .cons h1 t, hk, x, hx => by
    rcases List.mem_cons.mp hx with e | hx
    · subst e
      have := hk _ List.mem_cons_self
      rw [h1.1, h1.2.1] at this
      exact this
    · exact nrel_is t (fun e he => hk e (List.mem_cons_of_mem _ he)) x hx
section
variable {X : Cx} {pins : List (Addr × Obj)} {σ : L2.St} {H : Hp} {s : Shared} {d : Addr} {L : List NEnt}
theorem dictN_of (I : Inv X pins σ H s) (e : H d = some (DictNO X.prog X.w d L)) (hk : KeysN X.K H L) :
    L.length ≤ sizeLine ∧ (d == sysModules) = false ∧ ∃ xs, Paired NRel L xs ∧ s.heap.DictOfH (numKind X.prog X.w) d xs := by
  have R0 : DictN0 X.prog X.w s.heap d L := (I.hok d _ e).1
  obtain ⟨z, hd, nd, xs, rel, o, es, ep, h1, h2, h3, h4⟩ := R0
  refine ⟨z, hd, xs, rel, o, es, ep, h1, h2, h3, h4, nrel_is rel fun e he => (KeyV.is I (hk e he)).1, ?_⟩
  rw [nrel_keys rel]
  exact nd
theorem dictN_new {P : Program} {w : World} {H : Hp} {h : Heap} (hz : L.length ≤ sizeLine) (hd : (d == sysModules) = false) {xs : List (NestedKey × Addr × Value)} (rel : Paired NRel L xs) (dd : h.DictOfH (numKind P w) d xs) : ObjOk P w H h d (DictNO P w d L) := by
  obtain ⟨o, es, ep, h1, h2, h3, h4, _, h6⟩ := dd
  refine ⟨⟨hz, hd, by rw [← nrel_keys rel]; exact h6, xs, rel, o, es, ep, h1, h2, h3, h4⟩, ⟨o, h1⟩, fun g1 g2 q k => ?_⟩
  obtain ⟨z, hd, nd, xs, rel, o, es, ep, h1, r⟩ := q
  exact ⟨z, hd, nd, xs, rel, o, es, ep, k o h1, r⟩
end
def valN (L : List NEnt) (k : NestedKey) : Option V := (L.find? fun e => decide (e.1 = k)).map (·.2.2)
theorem nrel_find : ∀ {L : List NEnt} {xs : List (NestedKey × Addr × Value)}, Paired NRel L xs → ∀ k, RelO (valN L k) ((atKey xs k).map (·.2)) ∧ (atKey xs k).isSome = decide (k ∈ L.map (·.1))
  | _, _, .nil, k => ⟨trivial, by simp [atKey]⟩
  | _, _, .cons (a := p) (b := q) h t, k => by
    obtain ⟨i1, i2⟩ := nrel_find t k
    unfold valN atKey at i1 ⊢
    unfold atKey at i2
    by_cases c : p.1 = k
    · have c2 : q.1 = k := by rw [← h.1]; exact c
      rw [List.find?_cons, List.find?_cons, decide_eq_true c, decide_eq_true c2]
      refine ⟨h.2.2, ?_⟩
      rw [List.map_cons, decide_eq_true (by rw [c]; exact List.mem_cons_self)]
      rfl
    · have c2 : ¬ q.1 = k := by rw [← h.1]; exact c
      rw [List.find?_cons, List.find?_cons, decide_eq_false c, decide_eq_false c2]
      refine ⟨i1, ?_⟩
      rw [i2, List.map_cons, decide_eq_decide, List.mem_cons]
      exact ⟨.inr, fun h => h.resolve_left (Ne.symm c)⟩
def putN (L : List NEnt) (k : NestedKey) (b : Addr) (v : V) : List NEnt := if k ∈ L.map (·.1) then L.map (fun e => if e.1 = k then (e.1, e.2.1, v) else e) else L ++ [(k, b, v)]
theorem nrel_put {L : List NEnt} {xs : List (NestedKey × Addr × Value)} (r : Paired NRel L xs) (k : NestedKey) (b : Addr) {v : V} {u : Value} (rv : RelV v u) : Paired NRel (putN L k b v) (storedH xs k b u) := by
  have e := (nrel_find r k).2
  unfold putN storedH
  by_cases c : k ∈ L.map (·.1)
  · rw [decide_eq_true c] at e
    rw [if_pos c, if_pos e]
    clear c e
    induction r with
    | nil => exact .nil
    | @cons p q ps qs h t ih =>
      rw [List.map_cons, List.map_cons]
      refine .cons ?_ ih
      unfold putAt
      by_cases c : p.1 = k
      · rw [if_pos c, if_pos (h.1 ▸ c)]
        exact ⟨h.1, h.2.1, rv⟩
      · rw [if_neg c, if_neg (h.1 ▸ c)]
        exact h
  · rw [decide_eq_false c] at e
    rw [if_neg c, if_neg (by rw [e]; exact Bool.false_ne_true)]
    exact PySem.Paired.snoc r ⟨rfl, rfl, rv⟩
theorem putN_len (L : List NEnt) (k : NestedKey) (b : Addr) (v : V) : (putN L k b v).length ≤ L.length + 1 := by
  unfold putN
  split
  · rw [List.length_map]; omega
  · rw [List.length_append]; exact Nat.le_refl _
def tDInN (K : PySem.W.Frag) (P : Program) (w : World) (neg : Bool) (ty td : TE) : TE := fun σ H Q => ty σ H fun y H1 => td σ H1 fun x H2 => ∃ a b k L, x = .ref a ∧ y = .ref b ∧ H2 a = some (DictNO P w a L) ∧ KeysN K H2 L ∧ KeyV K H2 (b, k) ∧
  Q (.bl (if neg then !decide (k ∈ L.map (·.1)) else decide (k ∈ L.map (·.1)))) H2
def sDPutN (K : PySem.W.Frag) (P : Program) (w : World) (td ty tv : TE) : TS := fun D σ H => tv σ H fun v H1 => td σ H1 fun x H2 => ty σ H2 fun y H3 => ∃ a b k L, x = .ref a ∧ y = .ref b ∧ H3 a = some (DictNO P w a L) ∧ KeysN K H3 L ∧ KeyV K H3 (b, k) ∧
  L.length < sizeLine ∧ D.nx σ (upd H3 a (DictNO P w a (putN L k b v)))
section
variable {X : Cx} {o i e value : Expr} {pos pos' tpos : Pos} {td ty tv tk : TE}
theorem room8 (hu : X.A.units + 64 < cLine) : (numKind X.prog X.w).room X.A.in1 := by
  show X.A.in1.units + 8 < cLine
  simp only [Around.in1_units]
  omega
theorem pc_dinN (hu : X.A.units + 64 < cLine) (hi : PE X i ty) (ho : PE X o td) : PC X .In i o (tDInN X.K X.prog X.w false ty td) := by
  refine ⟨fun pins s σ H Q I h => ?_⟩
  refine thn (hi.run pins s σ H _ I h) fun iv s1 ⟨y, H1, I1, ry, q1⟩ => thn (ho.run pins s1 σ H1 _ I1 q1) fun u s2 ⟨x, H2, I2, rx, a, b, k, L, ex, ey, e, hk, hb, q2⟩ => ?_
  subst ex ey
  obtain rfl : u = Value.ref a := rx
  obtain rfl : iv = Value.ref b := ry
  obtain ⟨z, hd, xs, rel, dd⟩ := dictN_of I2 e hk
  refine wpAny_in_heap (room8 hu) (KeyV.is I2 hb).1 hd dd ?_
  rw [(nrel_find rel k).2]
  exact ⟨.bl _, H2, I2.tok _, rfl, q2⟩
theorem pc_dnotinN (hu : X.A.units + 64 < cLine) (hi : PE X i ty) (ho : PE X o td) : PC X .NotIn i o (tDInN X.K X.prog X.w true ty td) := by
  refine ⟨fun pins s σ H Q I h => ?_⟩
  refine thn (hi.run pins s σ H _ I h) fun iv s1 ⟨y, H1, I1, ry, q1⟩ => thn (ho.run pins s1 σ H1 _ I1 q1) fun u s2 ⟨x, H2, I2, rx, a, b, k, L, ex, ey, e, hk, hb, q2⟩ => ?_
  subst ex ey
  obtain rfl : u = Value.ref a := rx
  obtain rfl : iv = Value.ref b := ry
  obtain ⟨z, hd, xs, rel, dd⟩ := dictN_of I2 e hk
  refine wpAny_notIn_heap (room8 hu) (KeyV.is I2 hb).1 hd dd ?_
  rw [(nrel_find rel k).2]
  exact ⟨.bl _, H2, I2.tok _, rfl, q2⟩
theorem ps_dputN (hu : X.A.units + 64 < cLine) (ho : PE X o td) (hi : PE X i ty) (hv : PE X value tv) (hs : swapsWith value (some (.Subscript o i pos')) pos.line X.env = pure false) :
    PS X (.Assign [.Subscript o i pos'] value pos) (sDPutN X.K X.prog X.w td ty tv) := by
  refine ⟨fun pins s σ H D I h => ?_⟩
  refine wpAny_Assign_Subscript (thn (hv.run pins s σ H _ I h) fun r s1 ⟨v, H1, I1, rv, q1⟩ => thn (ho.run pins s1 σ H1 _ I1 q1) fun u s2 ⟨x, H2, I2, rx, q2⟩ => thn (hi.run pins s2 σ H2 _ I2 q2) fun iv s3 ⟨y, H3, I3, ry, a, b, k, L, ex, ey, e, hk, hb, hl, q3⟩ => ?_) hs
  subst ex ey
  obtain rfl : u = Value.ref a := rx
  obtain rfl : iv = Value.ref b := ry
  obtain ⟨z, hd, xs, rel, dd⟩ := dictN_of I3 e hk
  have hz : xs.length ≤ sizeLine := by rw [nrel_len rel]; exact z
  refine wpAny_setItem_heap (hsz := hz) (room8 hu) (KeyV.is I3 hb).1 dd fun h' dd' hs => ?_
  have he : ∃ q, h'.get? a = some q := let ⟨q, _, _, hq, _⟩ := dd'; ⟨q, hq⟩
  refine ⟨σ, _, d_write I3 (by rw [e]; exact True.intro) hs he (dictN_new ?_ hd (nrel_put rel k b rv) dd'), q3⟩
  have := putN_len L k b v
  omega
def tDisp1N (K : PySem.W.Frag) (P : Program) (w : World) (tk tv : TE) : TE := fun σ H Q => ∀ p, H p = none → tk σ (upd H p (.dK [])) fun y H1 => tv σ H1 fun v H2 => H2 p = some (.dK []) ∧ ∃ b k, y = .ref b ∧ KeyV K H2 (b, k) ∧ Q (.ref p) (upd H2 p (DictNO P w p [(k, b, v)]))
theorem pe_disp1N {k v : Expr} (hu : X.A.units + 64 < cLine) (hk : PE X k tk) (hv : PE X v tv) : PE X (.Dict [some k] [v] pos) (tDisp1N X.K X.prog X.w tk tv) := by
  refine ⟨fun pins s σ H Q I q => ?_⟩
  have hn := I.hok.fresh (Nat.le_refl s.heap.objs.size)
  have I1 := I.laid (a := s.heap.objs.size) (o := .dK []) (h' := s.heap.push { cls := .type "dict", data := .dict #[] }) (t' := s.toks) (fun _ _ q => Heap.get?_push_of_some _ q) (Nat.le_refl _) (dk_empty s.heap I.big)
  have q := q _ hn
  rw [arm_eval_Dict, zip_pairTrees [some k] [v] X.env pos rfl rfl, dictDisplay_pairs (pairTrees [some k] [v] X.env pos) (by intro z; have := pairTrees_length [some k] [v] X.env pos rfl rfl; rw [z] at this; cases this) (by rw [pairTrees_length [some k] [v] X.env pos rfl rfl]; show 1 < 17; decide)]
  have hu8 : (numKind X.prog X.w).room X.A := by show X.A.units + 8 < cLine; omega
  refine wpAny_bind (wpAny_standAt (wpAny_bind (wpAny_subDictH (knd := numKind X.prog X.w) (Q := fun d s' => wpAny (model X.prog X.w) X.A (pure (Value.ref d)) _ X.xe s') hu8 (by rw [pairTrees_length [some k] [v] X.env pos rfl rfl]; show 1 ≤ 15; decide) ?_)))
  refine pairTrees_cons_walk (thn (hk.run pins _ σ _ _ I1 q) fun u s1 ⟨y, H1, I1, ry, q1⟩ => thn (hv.run pins s1 σ H1 _ I1 q1) fun w2 s2 ⟨z, H2, I2, rz, e, b, kk, ey, hkey, q2⟩ => pairTrees_nil_walk ?_)
  subst ey
  obtain rfl : u = Value.ref b := ry
  obtain ⟨z1, hd, vs0, r0, dd⟩ := dk_of I2.hok e
  cases r0
  obtain ⟨o, es, ep, h1, h2, h3, _, h5, _⟩ := dd
  have ez : es.toList = [] := by
    generalize es.toList = l at h5
    cases h5
    rfl
  have dd0 : s2.heap.DictOfH (numKind X.prog X.w) s.heap.objs.size [] := ⟨o, es, ep, h1, h2, h3, ez, (fun _ h => by cases h), List.nodup_nil⟩
  refine ⟨[(kk, b, w2)], ⟨rfl, rfl, (KeyV.is I2 hkey).1, trivial⟩, dd0, fun h' tk dd' hs => wpAny_pure ⟨.ref s.heap.objs.size, _, ?_, rfl, q2⟩⟩
  have he : ∃ q, h'.get? s.heap.objs.size = some q := let ⟨q, _, _, hq, _⟩ := dd'; ⟨q, hq⟩
  exact d_write I2 (by rw [e]; exact True.intro) hs he (dictN_new (by show 1 ≤ sizeLine; decide) hd (.cons ⟨rfl, rfl, rz⟩ .nil) dd')
end
end Es
set_option Elab.async false
set_option linter.all false
set_option maxRecDepth 100000
set_option maxHeartbeats 4000000
namespace PySem.SeqAt
open PySem AutoSeq1 MeetsSeq MeetsSeq2 MeetsSeq3 SeqRoads2
theorem call_tuple_lt {A : Around} {s : Shared} {prog : Program} {w : World} {E : Value → Shared → Prop} {Q : Value → Shared → Prop} {l b : Addr} {items items2 : Array Value} {e r : Nat → Bool} (hl : s.heap.IsTuple l items) (hb : s.heap.IsTuple b items2)
    (he : ∀ j (h1 : j < items.size) (h2 : j < items2.size), EqAt A.in1 s items[j] items2[j] (e j)) (hr : ∀ j (h1 : j < items.size) (h2 : j < items2.size), e j = false → RcLt A.in1 s items[j] items2[j] (r j))
    (h : Q (.bool (firstLt e r (decide (items.size < items2.size)) (List.range (min items.size items2.size)))) s) : wpAny (model prog w) A (call (.builtin "tuple.__lt__") [.ref l, .ref b]) Q E s := by
  obtain ⟨⟨cls, dd, data, sl⟩, ho, hc, n, hd⟩ := id hl
  obtain ⟨⟨cls2, dd2, data2, sl2⟩, ho2, hc2, n2, hd2⟩ := id hb
  simp only at hc hd hc2 hd2
  subst hc hd hc2 hd2
  exact call_meets F.slot_tuple_lt ⟨_, ho, rfl⟩ F.entry_tuple_lt (F.args_tuple_lt_2 _ _) (tuple_ltAt l b items items2 n n2 dd dd2 sl sl2 e r) ⟨ho, ho2, he, hr, h⟩
end PySem.SeqAt
namespace PySem.W
open PySem PySem.SeqAt PySem.Calls PyProof.Rows
section
variable {prog : Program} {w : World} {A : Around} {s : Shared} {E : Value → Shared → Prop}
theorem oneLt_tuple {xs ys : List PyData} {a b : Value} {as bs : List Addr} {Q : Bool → Shared → Prop} (ra : Reads s.heap a (.tuple xs) as) (rb : Reads s.heap b (.tuple ys) bs) (h : alike (.tuple xs) (.tuple ys) = true)
    (hu : A.units + min (PyData.tuple xs).depth (PyData.tuple ys).depth < cLine) (hq : Q (dataLt (.tuple xs) (.tuple ys)) s) : wpAny (model prog w) A (oneLt' true a b) Q E s := by
  have hal : alikeAll xs ys = true := by simpa [alike] using h
  cases ra with
  | @tuple l o vs n _ as₁ h1 h2 h3 h4 =>
    cases rb with
    | @tuple l' o' vs' n' _ bs₁ k1 k2 k3 k4 =>
      have n1 : vs.size = xs.length := by simpa using ReadsAll.length _ _ _ h4
      have n2 : vs'.size = ys.length := by simpa using ReadsAll.length _ _ _ k4
      rw [dataLt_tuple, ← firstLt_toks xs ys hal, ← n1, ← n2] at hq
      rw [oneLt'_eq]
      simp only [if_true]
      refine wpAny_bind (wpAny_cRoomFor (room_here hu) ?_)
      refine wpAny_bind (wpAny_callSpecialIfBound?_slot (T := "tuple") ⟨_, h1, h2⟩ F.slot_tuple_lt (call_tuple_lt (e := pairEq xs ys) (r := fun j => dataLt (xs.getD j .none) (ys.getD j .none)) ⟨_, h1, h2, _, h3⟩ ⟨_, k1, k2, _, k3⟩ (fun j j1 j2 => ?_) (fun j j1 j2 hj => ?_) ?_))
      · have := eqAt_alikeAll xs ys A.in1 s vs.toList vs'.toList _ _ h4 k4 hal (room_in hu) j (by simpa using j1) (by simpa using j2)
        simpa using this
      · have := rcLt_alikeAll xs ys A.in1 s vs.toList vs'.toList _ _ h4 k4 hal (room_in hu) j (by simpa using j1) (by simpa using j2) hj
        simpa using this
      · exact wpAny_truthy_bool hq
def Tup0 (ds : List PyData) : Prop := (∃ r, ds = .tuple [] :: r) ∧ ∀ d, d ∈ ds → ∃ xs, d = .tuple xs
theorem firsts_any {M : Model} : ∀ (vs : List Value) (ds : List PyData) {Q : List (Option Value) → Shared → Prop}, EachIs (fun v d => ∃ as, Reads s.heap v d as) vs ds → (∀ d, d ∈ ds → ∃ xs, d = .tuple xs) →
    (∀ rs : List (Option Value), ((∃ r, ds = .tuple [] :: r) → ∃ q, rs = none :: q) → Q rs s) → wpAny M A (vs.mapM firstOfTuple') Q E s
  | _, _, Q, .nil, _, h => by
    rw [List.mapM_nil]
    exact wpAny_pure (h [] fun ⟨r, z⟩ => by cases z)
  | _, _, Q, .cons (a := v) (b := d) (as := vs) (bs := ds) ⟨as, r⟩ t, ht, h => by
    obtain ⟨xs, rfl⟩ := ht d (List.mem_cons_self ..)
    cases r with
    | @tuple a o items n _ _ ho hc hd hr =>
      rw [List.mapM_cons]
      refine wpAny_bind ?_
      rw [kas_first_eq]
      refine wpAny_bind (Looks.here (show Looks M s.heap (typeOf (.ref a)) o.cls from (Looks.ld ho).andThen .now) ?_)
      rw [hc, if_neg (by first | decide | simp)]
      refine wpAny_bind (listItems_at ho hd (wpAny_pure ?_))
      refine wpAny_bind (firsts_any vs ds (Q := fun bs s' => wpAny M A (pure (items[0]? :: bs)) Q E s') t (fun d hd => ht d (List.mem_cons_of_mem _ hd)) fun rs _ => wpAny_pure (h _ ?_))
      rintro ⟨q, z⟩
      injection z with z1 z2
      injection z1 with z1
      subst z1
      refine ⟨rs, ?_⟩
      have e : items.toList = [] := by
        generalize items.toList = l at hr
        cases hr
        rfl
      rw [← Array.getElem?_toList, e]
      rfl
theorem tup0_kind {vs : List Value} {ds : List PyData} {Q : SortKind → Shared → Prop} (e : EachIs (fun v d => ∃ as, Reads s.heap v d as) vs ds) (h0 : Tup0 ds) (h : Q oneType' s) : wpAny (model prog w) A (keyKind' vs.toArray) Q E s := by
  obtain ⟨⟨r, er⟩, ht⟩ := h0
  rw [keyKind'_eq, List.mapM_toArray, map_eq_pure_bind]
  refine wpAny_bind (wpAny_bind (firsts_any vs ds e ht fun rs hrs => wpAny_pure ?_))
  obtain ⟨q, rfl⟩ := hrs ⟨r, er⟩
  rw [if_neg (by simp), if_neg (by simp)]
  rw [oneTypeOnly'_eq, List.mapM_toArray, map_eq_pure_bind]
  refine wpAny_bind (wpAny_bind (wpAny_bind (kas_mapM (r := Value.type "tuple") _ (fun v hv Q' hq => ?_) (wpAny_pure ?_))))
  · obtain ⟨d, hd, as, rd⟩ := e.left v hv
    obtain ⟨xs, rfl⟩ := ht d hd
    exact (looks_reads rd).here hq
  · have n0 : vs ≠ [] := fun z => by
      subst z
      rw [er] at e
      cases e
    have hall : ((List.map (fun _ => Value.type "tuple") vs).toArray.all fun x => x == Value.type "tuple") = true := by
      simp only [List.all_toArray, List.all_map, List.all_eq_true]
      intro _ _
      exact beq_self_eq_true _
    have h0 : (List.map (fun _ => Value.type "tuple") vs).toArray[0]? = some (Value.type "tuple") := by
      cases vs with
      | nil => exact absurd rfl n0
      | cons v vs => simp
    rw [h0]
    simp only [hall, if_true]
    exact wpAny_pure (wpAny_pure h)
def SortOk (ds : List PyData) : Prop := Sortable ds ∨ Tup0 ds
theorem SortsAt.any {vs : List Value} {ds : List PyData} (e : EachIs (fun v d => ∃ as, Reads s.heap v d as) vs ds) (hal : AllAlike ds) (hk : SortOk ds) (hu : ∀ d, d ∈ ds → A.units + d.depth < cLine) : SortsAt prog w A s (dataKind s.heap ds) vs := by
  rcases hk with hk | hk
  · exact SortsAt.data e hal hk hu
  have room : ∀ {d d' : PyData}, d ∈ ds → A.units + min d.depth d'.depth < cLine := fun {d d'} hd => Nat.lt_of_le_of_lt (Nat.add_le_add_left (Nat.min_le_left _ _) _) (hu d hd)
  refine ⟨fun v hv => ?_, oneType', ?_, fun h2 E Q hq => tup0_kind e hk hq⟩
  · obtain ⟨d, hd, as, r⟩ := e.left v hv
    exact ⟨_, dataKind_some hal hd r⟩
  · intro E x y a b Q ha hb hq
    obtain ⟨d, as, hd, ra, rfl⟩ := dataKind_inv ha
    obtain ⟨d', as', hd', rb, rfl⟩ := dataKind_inv hb
    rw [keyLt'_oneType]
    obtain ⟨xs, rfl⟩ := hk.2 d hd
    obtain ⟨ys, rfl⟩ := hk.2 d' hd'
    exact oneLt_tuple ra rb (hal _ hd _ hd') (room hd) hq
variable {β : Type} {R : Value → β → Prop} {enc : β → PyData} {vs : List Value} {bs : List β}
theorem sorted_dataG {l : Addr} {Q : Value → Shared → Prop} (hl : s.heap.IsList l vs.toArray) (e : EachIs R vs bs) (er : EachIs (fun v b => ∃ as, Reads s.heap v (enc b) as) vs bs) (hal : AllAlike (bs.map enc)) (hk : SortOk (bs.map enc)) (hL : bs.length ≤ sizeLine)
    (hu : ∀ b, b ∈ bs → A.units + 2 + (enc b).depth < cLine) (h : ∀ out, out.length = bs.length → EachIs R out (bs.mergeSort (dataLe false enc)) → Q (.ref (s.heap.objs.size + 1)) { s with heap := sortedAll s.heap vs (List.toArray out) }) :
    wpAny (model prog w) A (call (.builtin "sorted") [.ref l]) Q E s := by
  have er' : EachIs (fun v b => ∃ as, Reads (sortingHeap (copyHeap s.heap vs) (s.heap.objs.size + 1) vs) v (enc b) as) vs bs := er.mono fun _ _ ⟨as, r⟩ => ⟨as, PyProof.Rows.Reads.keeps (fun _ _ => sorting_copy_old) r⟩
  exact sorted_vals hl (SortsAt.any (s := { s with heap := sortingHeap (copyHeap s.heap vs) (s.heap.objs.size + 1) vs }) (each_map (R := fun v d => ∃ as, Reads (sortingHeap (copyHeap s.heap vs) (s.heap.objs.size + 1) vs) v d as) enc er') hal hk (bound_map hu)) (by rw [e.length]; exact hL)
    (h _ (by rw [sortVals_length false rfl]; exact e.length) (sortVals_data false e er' hal))
theorem list_sort_dataG {a : Addr} {n : Nat} {Q : Value → Shared → Prop} (ho : s.heap.get? a = some (seqObj "list" vs.toArray n)) (e : EachIs R vs bs) (er : EachIs (fun v b => ∃ as, Reads s.heap v (enc b) as ∧ a ∉ as) vs bs) (hal : AllAlike (bs.map enc)) (hk : SortOk (bs.map enc)) (hL : bs.length ≤ sizeLine)
    (hu : ∀ b, b ∈ bs → A.units + 1 + (enc b).depth < cLine) (h : ∀ out, out.length = bs.length → EachIs R out (bs.mergeSort (dataLe false enc)) → Q .none { s with heap := sortedHeap s.heap a vs (List.toArray out) }) :
    wpAny (model prog w) A (call (.builtin "list.sort") [.ref a]) Q E s := by
  have er' : EachIs (fun v b => ∃ as, Reads (sortingHeap s.heap a vs) v (enc b) as) vs bs := each_keepBut (h' := sortingHeap s.heap a vs) (fun _ _ hb q => sortingHeap_old hb q) (fun o q => by rw [ho] at q; rw [← Option.some.inj q]) hal er
  refine wpAny_call_entry slot_list_sort ⟨_, ho, rfl⟩ entry_list_sort (list_sort_vals (κ := dataKind (sortingHeap s.heap a vs) (bs.map enc)) ho (SortsAt.any (s := { s with heap := sortingHeap s.heap a vs }) (each_map (R := fun v d => ∃ as, Reads (sortingHeap s.heap a vs) v d as) enc er') hal hk (bound_map hu)) (by rw [e.length]; exact hL) ⟨.none, rfl, ?_⟩) (args_list_sort _)
  exact h _ (by rw [sortVals_length false rfl]; exact e.length) (sortVals_data false e er' hal)
end
end PySem.W
set_option Elab.async false
set_option linter.all false
set_option maxRecDepth 100000
set_option maxHeartbeats 4000000
namespace Es
open PySem PySem.Spec PyProof.Rows L2
abbrev keysA (L : List NEnt) : List (Addr × NestedKey) := L.map fun e => (e.2.1, e.1)
def rSortedDN (K : PySem.W.Frag) (P : Program) (w : World) : List V → Hp → VK → Prop := fun xs H Q => ∃ (a : Addr) (L : List NEnt), xs = [.ref a] ∧ H a = some (DictNO P w a L) ∧ KeysN K H L ∧
  PySem.W.AllAlike ((keysA L).map fun e => e.2.data) ∧ PySem.W.SortOk ((keysA L).map fun e => e.2.data) ∧ (∀ e ∈ keysA L, e.2.data.depth ≤ 40) ∧
  ∀ p, H p = none → Q (.ref p) (upd H p (.lst ((byData (keysA L)).map fun e => V.ref e.1)))
theorem nrel_at : ∀ {L : List NEnt} {xs : List (NestedKey × Addr × Value)} {j : Nat} {b : NestedKey × Addr × Value}, Paired NRel L xs → xs[j]? = some b → ∃ p, L[j]? = some p ∧ NRel p b
  | _, _, 0, _, .cons h _, e => ⟨_, rfl, by cases e; exact h⟩
  | _, _, j + 1, _, .cons _ t, e => nrel_at (j := j) t e
  | _, _, _, _, .nil, e => by cases e
section
variable {X : Cx}
theorem cr_sortedDN (hc : X.calm = true) (hu : X.A.units + 64 < cLine) : CallR X (.builtin "sorted") (rSortedDN X.K X.prog X.w) := by
  intro pins s σ H xs us Q I r h
  obtain ⟨a, L, rfl, ha, hk, al, so, dp, q⟩ := h
  rw [Vals.ref1 r]
  obtain ⟨z, lo, xs, rel, dd⟩ := dictN_of I ha hk
  obtain ⟨o, es, ep, h1, h2, h3, h4, _, _⟩ := id dd
  have l1 : es.size = xs.length := size_of_entries h4
  have l2 := nrel_len rel
  refine Calls.call_function_entry PyProof.Rows.kind_sorted PyProof.Rows.plain_sorted PyProof.Rows.entry_sorted (PyProof.Rows.args_sorted1 _) ?_
  unfold Builtin.«sorted»
  refine wpAny_bind (m := checkCount "sorted" 1 1 _) (wpAny_pure ?_)
  refine wpAny_bind (PySem.W.kdu_collect (A := X.A.in1) (kdl_raw lo h2 h3) (I.ok.hd hc) h1 (by omega) fun h' tk acc kp it => ?_)
  have ea : acc.toList = (keysA L).map fun e => Value.ref e.1 := by
    have hl : acc.toList.length = L.length := by rw [Array.length_toList, it.1]; omega
    apply List.ext_getElem?
    intro j
    rw [List.getElem?_map, List.getElem?_map]
    cases hj : acc.toList[j]? with
    | none =>
      have h1 := List.getElem?_eq_none_iff.mp hj
      rw [List.getElem?_eq_none (by omega)]
      rfl
    | some v =>
      obtain ⟨en, hen, hv⟩ := it.2 j v (by rw [← Array.getElem?_toList]; exact hj)
      have qe := entry_at h4 j
      rw [hen] at qe
      cases hb : xs[j]? with
      | none =>
        rw [hb] at qe
        exact nomatch (show some en = none from qe)
      | some b =>
        rw [hb] at qe
        have e2 : en = entryOfKey (numKind X.prog X.w) b := Option.some.inj qe
        obtain ⟨p, hp, e3⟩ := nrel_at rel hb
        rw [hp, hv, e2]
        show some (Value.ref b.2.1) = some (Value.ref p.2.1)
        rw [e3.2.1]
  have I1 : Inv X pins σ H { s with heap := h', toks := tk } := I.kept kp
  rw [ea]
  have few : ((keysA L).map fun e => Value.ref e.1).length ≤ sizeLine := by
    rw [List.length_map, List.length_map]
    exact z
  refine wpAny_bind (wpAny_newList ?_ few)
  have inn : (h'.push (seqObj "list" ((keysA L).map fun e => Value.ref e.1).toArray 0)).get? h'.objs.size = some (seqObj "list" ((keysA L).map fun e => Value.ref e.1).toArray 0) := Heap.get?_push_size _ rfl
  show wpAny _ _ _ _ _ { s with heap := h'.push (seqObj "list" ((keysA L).map fun e => Value.ref e.1).toArray 0), toks := tk }
  have each1 : ∀ L1 : List (Addr × NestedKey), PySem.W.EachIs (fun v (e : Addr × NestedKey) => v = Value.ref e.1) (L1.map fun e => Value.ref e.1) L1 := by
    intro L1
    induction L1 with
    | nil => exact .nil
    | cons e L1 ih => exact .cons rfl ih
  have each2 : ∀ L1 : List (Addr × NestedKey), (∀ e ∈ L1, e ∈ keysA L) → PySem.W.EachIs (fun v (e : Addr × NestedKey) => ∃ as, Reads (h'.push (seqObj "list" ((keysA L).map fun e => Value.ref e.1).toArray 0)) v e.2.data as ∧ h'.objs.size ∉ as) (L1.map fun e => Value.ref e.1) L1 := by
    intro L1 h
    generalize hN : seqObj "list" ((keysA L).map fun e => Value.ref e.1).toArray 0 = N
    clear hN
    induction L1 with
    | nil => exact .nil
    | cons e L1 ih =>
      refine .cons ?_ (ih fun x hx => h x (List.mem_cons_of_mem _ hx))
      obtain ⟨e0, he0, rfl⟩ := List.mem_map.mp (h e List.mem_cons_self)
      obtain ⟨_, as, r⟩ := KeyV.is I1 (hk e0 he0)
      have e1 := (reads_key _ _ _ r).2
      subst e1
      exact ⟨[], PyProof.Rows.Reads.keeps (fun b u z => Heap.get?_push_of_some _ z) r, by simp⟩
  refine wpAny_bind (wpAny_holding (PySem.W.list_sort_dataG (s := { s with heap := h'.push (seqObj "list" ((keysA L).map fun e => Value.ref e.1).toArray 0), toks := tk }) (enc := fun e => e.2.data) inn (each1 _) (each2 _ fun _ h => h) al so (by rw [List.length_map]; exact z)
    (fun e he => by have := dp e he; simp only [Around.in1_units]; omega) fun out ol oe => ?_))
  obtain ⟨c, hc⟩ := PyProof.Rows.sortedHeap_at (vs := (keysA L).map fun e => Value.ref e.1) (out := out.toArray) inn
  have eo : out = (byData (keysA L)).map fun e => Value.ref e.1 := by
    have : ∀ {xs : List Value} {ys : List (Addr × NestedKey)}, PySem.W.EachIs (fun v (e : Addr × NestedKey) => v = Value.ref e.1) xs ys → xs = ys.map fun e => Value.ref e.1 := by
      intro xs ys h
      induction h with
      | nil => rfl
      | cons h1 _ ih => rw [List.map_cons, h1, ih]
    exact this oe
  have hlen : ((byData (keysA L)).map fun e => V.ref e.1).length ≤ sizeLine := by
    rw [List.length_map, List.length_mergeSort, List.length_map]
    exact z
  refine wpAny_pure ⟨_, rfl, .ref h'.objs.size, upd H h'.objs.size (.lst ((byData (keysA L)).map fun e => V.ref e.1)), I1.laid (t' := tk) (fun b u e => ?_) (Nat.le_refl _)
    (show ObjOk X.prog X.w _ _ _ (.lst _) from ⟨hlen, out, c, by rw [eo]; exact keys_vals _, hc⟩), rfl, q _ (I1.hok.fresh (Nat.le_refl _))⟩
  have hb : b < h'.objs.size := Heap.lt_size e
  rw [PyProof.Rows.sortedHeap_old (Nat.ne_of_lt hb) (by rw [size_push']; exact Nat.lt_succ_of_lt hb)]
  exact Heap.get?_push_of_some _ e
def rSortedDataG (K : PySem.W.Frag) : List V → Hp → VK → Prop := fun xs H Q =>
  ∃ (a : Addr) (bs : List (V × PyData)), xs = [.ref a] ∧ SqL K H a (bs.map (·.1)) ∧ (∀ b ∈ bs, Dp K H b.1 b.2) ∧ PySem.W.AllAlike (bs.map (·.2)) ∧ PySem.W.SortOk (bs.map (·.2)) ∧ (∀ b ∈ bs, b.2.depth ≤ 40) ∧
    ∀ p, H p = none → Q (.ref p) (upd H p (.lst ((bs.mergeSort (PySem.W.dataLe false (·.2))).map (·.1))))
theorem cr_sortedDataG (hu : X.A.units + 64 < cLine) : CallR X (.builtin "sorted") (rSortedDataG X.K) := by
  intro pins s σ H xs us Q I r h
  obtain ⟨a, bs, rfl, hs, hd, al, so, dp, q⟩ := h
  rw [Vals.ref1 r]
  obtain ⟨its, rv, pl, hz⟩ := I.list hs
  obtain ⟨e1, e2⟩ := each_of (K := X.K) I bs its rv hd
  have hz2 : bs.length ≤ sizeLine := by
    rw [List.length_map] at hz
    exact hz
  refine PySem.W.sorted_dataG pl.isList e1 e2 al so hz2 (fun b hb => by have := dp b hb; omega) ?_
  intro out ho eo
  have ro := vals_each eo
  obtain ⟨c, hc⟩ := sortedAll_at s.heap its out.toArray
  refine ⟨.ref (s.heap.objs.size + 1), upd H (s.heap.objs.size + 1) (.lst ((bs.mergeSort (PySem.W.dataLe false (·.2))).map (·.1))), ?_, rfl, q _ (I.hok.fresh (Nat.le_succ _))⟩
  refine I.laid (t' := s.toks) (fun _ _ => sortedAll_old) (Nat.le_succ _) ⟨?_, out, c, ro, hc⟩
  rw [List.length_map, List.length_mergeSort]
  exact hz2
end
end Es
set_option Elab.async false
set_option linter.all false
set_option maxRecDepth 100000
set_option maxHeartbeats 4000000
namespace Es
open PySem PySem.Spec PyProof.Rows L2
section
variable {X : Cx} {K : PySem.W.Frag} {P : Program} {w : World} {o i e value k v : Expr} {pos pos' : Pos} {td ty tv tk : TE}
theorem pc_dnotinNE (hK : X.K = K) (hP : X.prog = P) (hw : X.w = w) (hu : X.A.units + 64 < cLine) (hi : PE X i ty) (ho : PE X o td) : PC X .NotIn i o (tDInN K P w true ty td) := by
  subst hK hP hw
  exact pc_dnotinN hu hi ho
theorem pc_dinNE (hK : X.K = K) (hP : X.prog = P) (hw : X.w = w) (hu : X.A.units + 64 < cLine) (hi : PE X i ty) (ho : PE X o td) : PC X .In i o (tDInN K P w false ty td) := by
  subst hK hP hw
  exact pc_dinN hu hi ho
theorem ps_dputNE (hK : X.K = K) (hP : X.prog = P) (hw : X.w = w) (hu : X.A.units + 64 < cLine) (ho : PE X o td) (hi : PE X i ty) (hv : PE X value tv) (hs : swapsWith value (some (.Subscript o i pos')) pos.line X.env = pure false) :
    PS X (.Assign [.Subscript o i pos'] value pos) (sDPutN K P w td ty tv) := by
  subst hK hP hw
  exact ps_dputN hu ho hi hv hs
theorem pe_disp1NE (hK : X.K = K) (hP : X.prog = P) (hw : X.w = w) (hu : X.A.units + 64 < cLine) (hk : PE X k tk) (hv : PE X v tv) : PE X (.Dict [some k] [v] pos) (tDisp1N K P w tk tv) := by
  subst hK hP hw
  exact pe_disp1N hu hk hv
theorem cr_sortedDNE (hK : X.K = K) (hP : X.prog = P) (hw : X.w = w) (hc : X.calm = true) (hu : X.A.units + 64 < cLine) : CallR X (.builtin "sorted") (rSortedDN K P w) := by
  subst hK hP hw
  exact cr_sortedDN hc hu
end
end Es
set_option Elab.async false
set_option linter.all false
set_option maxRecDepth 100000
set_option maxHeartbeats 4000000
namespace Es
open PySem PySem.Spec PyProof.Rows L2
open PySem.W (alike alikeAll keyToks keyToksAll dataLt dataLe)
mutual
theorem toks_inj : ∀ (x y : PyData), alike x y = true → ∀ l m, keyToks x ++ l = keyToks y ++ m → x = y ∧ l = m
  | .none, y, h, l, m, e => by
    cases y with
    | none => exact ⟨rfl, e⟩
    | _ => exact absurd h (by simp [alike])
  | .bool b, y, h, l, m, e => by
    cases y with
    | bool c =>
      simp only [keyToks, List.singleton_append] at e
      injection e with e1 e2
      injection e1 with e1
      refine ⟨?_, e2⟩
      cases b <;> cases c <;> first | rfl | cases e1
    | _ => exact absurd h (by simp [alike])
  | .int b, y, h, l, m, e => by
    cases y with
    | int c =>
      simp only [keyToks, List.singleton_append] at e
      injection e with e1 e2
      injection e1 with e1
      exact ⟨by rw [e1], e2⟩
    | _ => exact absurd h (by simp [alike])
  | .str b, y, h, l, m, e => by
    cases y with
    | str c =>
      simp only [keyToks, List.singleton_append] at e
      injection e with e1 e2
      injection e1 with e1
      exact ⟨by rw [PySem.W.str_of_cps e1], e2⟩
    | _ => exact absurd h (by simp [alike])
  | .list xs, y, h, l, m, e => by
    cases y with
    | list ys =>
      simp only [keyToks] at e
      have := toksAll_inj xs ys (by simpa [alike] using h) l m e
      exact ⟨by rw [this.1], this.2⟩
    | _ => exact absurd h (by simp [alike])
  | .tuple xs, y, h, l, m, e => by
    cases y with
    | tuple ys =>
      simp only [keyToks] at e
      have := toksAll_inj xs ys (by simpa [alike] using h) l m e
      exact ⟨by rw [this.1], this.2⟩
    | _ => exact absurd h (by simp [alike])
  | .dict _, y, h, _, _, _ => by cases y <;> exact absurd h (by simp [alike])
theorem toksAll_inj : ∀ (xs ys : List PyData), alikeAll xs ys = true → ∀ l m, keyToksAll xs ++ l = keyToksAll ys ++ m → xs = ys ∧ l = m
  | [], [], _, l, m, e => by
    simp only [keyToksAll, List.singleton_append] at e
    injection e with _ e
    exact ⟨rfl, e⟩
  | [], y :: ys, _, l, m, e => by
    simp only [keyToksAll, List.singleton_append, List.cons_append] at e
    injection e with e _
    injection e with e
    cases e
  | x :: xs, [], _, l, m, e => by
    simp only [keyToksAll, List.singleton_append, List.cons_append] at e
    injection e with e _
    injection e with e
    cases e
  | x :: xs, y :: ys, h, l, m, e => by
    have h' := PySem.W.alike_all_cons h
    simp only [keyToksAll, List.cons_append, List.append_assoc] at e
    injection e with _ e
    obtain ⟨e1, e2⟩ := toks_inj x y h'.1 _ _ e
    obtain ⟨e3, e4⟩ := toksAll_inj xs ys h'.2 _ _ e2
    exact ⟨by rw [e1, e3], e4⟩
end
theorem lt_antisymm {x y : PyData} (h : alike x y = true) (a : dataLt x y = false) (b : dataLt y x = false) : x = y := by
  have e : keyToks x = keyToks y := (listOrd itemOrd).total _ _ a b
  exact (toks_inj x y h [] [] (by rw [e])).1
theorem sort_pair {β : Type} (enc : β → PyData) (bs : List β) : ((bs.mergeSort (dataLe false enc)).map enc).Pairwise (fun a b => dataLt b a = false) := by
  refine List.pairwise_map.mpr ?_
  have := List.pairwise_mergeSort (le := dataLe false enc) (fun a b c h1 h2 => ?_) (fun a b => ?_) bs
  · refine this.imp fun {a b} h => ?_
    rw [PySem.W.dataLe_eq] at h
    simpa using h
  · rw [PySem.W.dataLe_eq] at *
    simp only [cond_false, Bool.not_eq_true'] at *
    cases q : dataLt (enc c) (enc a) with
    | false => rfl
    | true =>
      rcases (listOrd itemOrd).negTrans (keyToks (enc c)) (keyToks (enc b)) (keyToks (enc a)) q with z | z
      · have z : dataLt (enc c) (enc b) = true := z
        rw [h2] at z
        cases z
      · have z : dataLt (enc b) (enc a) = true := z
        rw [h1] at z
        cases z
  · rw [PySem.W.dataLe_eq]
    simp only [cond_false]
    cases q : dataLt (enc b) (enc a) with
    | false => rfl
    | true =>
      cases q2 : dataLt (enc a) (enc b) with
      | false => rfl
      | true =>
        have z := (listOrd itemOrd).trans _ _ _ q q2
        rw [(listOrd itemOrd).irrefl] at z
        cases z
theorem sort_same {β γ : Type} {f : β → PyData} {g : γ → PyData} {bs : List β} {cs : List γ} (p : (bs.map f).Perm (cs.map g)) (al : PySem.W.AllAlike (bs.map f)) : (bs.mergeSort (dataLe false f)).map f = (cs.mergeSort (dataLe false g)).map g := by
  have p1 := (List.mergeSort_perm bs (dataLe false f)).map f
  have p2 := (List.mergeSort_perm cs (dataLe false g)).map g
  refine List.Perm.eq_of_pairwise (le := fun a b => dataLt b a = false) (fun a b ha hb h1 h2 => ?_) (sort_pair f bs) (sort_pair g cs) (p1.trans (p.trans p2.symm))
  exact lt_antisymm (al a (p1.mem_iff.mp ha) b (p.symm.mem_iff.mp (p2.mem_iff.mp hb))) h2 h1
end Es
set_option Elab.async false
set_option linter.all false
set_option maxRecDepth 100000
set_option maxHeartbeats 4000000
namespace Es
open PySem PySem.Spec PyProof.Rows L2
def hd0 (m : Nat) : Nat := (low m).getD 0
theorem hd0_of {m h : Nat} (e : low m = some h) : hd0 m = h := by unfold hd0; rw [e]; rfl
theorem hd0_spec {m : Nat} (hm : m < 2 ^ 63) (h : m ≠ 0) : low m = some (hd0 m) := by
  obtain ⟨k, e⟩ := low_some hm h
  rw [e, hd0_of e]
structure WF (n : Nat) (fl : List (Nat × Nat)) : Prop where
  ok : ∀ l ∈ fl, l.1 < 2 ^ n ∧ l.1 ≠ 0 ∧ l.2 < 2
  asc : (fl.map fun l => hd0 l.1).Pairwise (· < ·)
  oth : ∀ l ∈ fl, ∀ k ∈ fl, hd0 k.1 ≠ hd0 l.1 → l.1.testBit (hd0 k.1) = false
def hsOf (fl : List (Nat × Nat)) : List (Nat × Nat × Nat) := fl.map fun l => (hd0 l.1, l)
theorem p63 {n m : Nat} (n62 : n ≤ 62) (h : m < 2 ^ n) : m < 2 ^ 63 := Nat.lt_of_lt_of_le h (Nat.pow_le_pow_right (by decide) (by omega))
theorem wf_flat {n : Nat} {fl : List (Nat × Nat)} (n62 : n ≤ 62) (W : WF n fl) : FlatOk (hsOf fl) ∧ canon (hsOf fl) = fl ∧ ∀ e ∈ hsOf fl, e.2.1 < 2 ^ n := by
  have mem : ∀ e ∈ hsOf fl, ∃ l ∈ fl, e = (hd0 l.1, l) := fun e he => by
    obtain ⟨l, hl, rfl⟩ := List.mem_map.mp he
    exact ⟨l, hl, rfl⟩
  have keys : (hsOf fl).map (·.1) = fl.map fun l => hd0 l.1 := by
    unfold hsOf
    rw [List.map_map]
    rfl
  have low_ : ∀ l ∈ fl, low l.1 = some (hd0 l.1) := fun l hl => hd0_spec (p63 n62 (W.ok l hl).1) (W.ok l hl).2.1
  have R : RedOk (hsOf fl) := by
    refine ⟨by rw [keys]; exact W.asc.imp fun h => Nat.ne_of_lt h, fun e he => ?_, fun e he h hh ne => ?_⟩
    · obtain ⟨l, hl, rfl⟩ := mem e he
      obtain ⟨a, b, _⟩ := low_iff.mp (low_ l hl)
      exact ⟨a, p63 n62 (W.ok l hl).1, b⟩
    · obtain ⟨l, hl, rfl⟩ := mem e he
      rw [keys] at hh
      obtain ⟨k, hk, rfl⟩ := List.mem_map.mp hh
      exact W.oth l hl k hk ne
  refine ⟨⟨R, fun e he => ?_, fun e he => ?_⟩, ?_, fun e he => ?_⟩
  · obtain ⟨l, hl, rfl⟩ := mem e he
    exact low_ l hl
  · obtain ⟨l, hl, rfl⟩ := mem e he
    exact (W.ok l hl).2.2
  · unfold canon
    rw [byHead_asc R (by rw [keys]; exact W.asc)]
    unfold hsOf
    rw [List.map_map]
    exact List.map_id' _
  · obtain ⟨l, hl, rfl⟩ := mem e he
    exact (W.ok l hl).1
theorem flat_wf {n : Nat} {hs : List (Nat × Nat × Nat)} (F : FlatOk hs) (hlt : ∀ e ∈ hs, e.2.1 < 2 ^ n) : WF n (canon hs) := by
  have mem : ∀ l ∈ canon hs, ∃ e ∈ hs, e.2 = l ∧ hd0 l.1 = e.1 := fun l hl => by
    unfold canon at hl
    obtain ⟨e, he, rfl⟩ := List.mem_map.mp hl
    have he := (byHead_perm F.red).mem_iff.mp he
    exact ⟨e, he, rfl, hd0_of (F.least e he)⟩
  refine ⟨canonM F hlt, ?_, fun l hl k hk ne => ?_⟩
  · have k := srt_lt (hs.map (·.1))
    rw [← byHead_keys] at k
    have e : (canon hs).map (fun l => hd0 l.1) = (byHead hs).map (·.1) := by
      unfold canon
      rw [List.map_map]
      refine List.map_congr_left fun e he => ?_
      exact hd0_of (F.least e ((byHead_perm F.red).mem_iff.mp he))
    rw [e]
    exact k
  · obtain ⟨e, he, rfl, h1⟩ := mem l hl
    obtain ⟨g, hg, rfl, h2⟩ := mem k hk
    rw [h2] at ne ⊢
    rw [h1] at ne
    exact F.red.oth e he g.1 (List.mem_map.mpr ⟨g, hg, rfl⟩) ne
def IsC (n : Nat) (fl : List (Nat × Nat)) : Prop := ∃ hs, FlatOk hs ∧ (∀ e ∈ hs, e.2.1 < 2 ^ n) ∧ canon hs = fl
theorem isC_wf {n : Nat} (n62 : n ≤ 62) {fl : List (Nat × Nat)} : IsC n fl ↔ WF n fl := by
  constructor
  · rintro ⟨hs, F, hlt, rfl⟩
    exact flat_wf F hlt
  · intro W
    obtain ⟨F, e, hlt⟩ := wf_flat n62 W
    exact ⟨hsOf fl, F, hlt, e⟩
theorem wf_nil (n : Nat) : WF n [] := ⟨fun l h => (by cases h), .nil, fun l h => (by cases h)⟩
theorem wf_tail {n : Nat} {l : Nat × Nat} {r : List (Nat × Nat)} (W : WF n (l :: r)) : WF n r ∧ ∀ k ∈ r, hd0 l.1 < hd0 k.1 := by
  have a := List.pairwise_cons.mp (show (hd0 l.1 :: r.map fun l => hd0 l.1).Pairwise (· < ·) from W.asc)
  exact ⟨⟨fun k h => W.ok k (List.mem_cons_of_mem _ h), a.2, fun k h g hg ne => W.oth k (List.mem_cons_of_mem _ h) g (List.mem_cons_of_mem _ hg) ne⟩, fun k hk => a.1 _ (List.mem_map.mpr ⟨k, hk, rfl⟩)⟩
def rowsL (u : Nat) (hd : List Nat) : Nat → List Nat
  | 0 => [2 ^ u]
  | k + 1 => if u + 1 + k ∈ hd then rowsL u hd k else rowsL u hd k ++ (rowsL u hd k).map (· ||| 2 ^ (u + 1 + k))
theorem rowsL_mem {u : Nat} {hd : List Nat} : ∀ (k : Nat) {m : Nat}, m ∈ rowsL u hd k ↔ m.testBit u = true ∧ ∀ o, m.testBit o = true → o = u ∨ (u < o ∧ o ≤ u + k ∧ o ∉ hd)
  | 0, m => by
    unfold rowsL
    rw [List.mem_singleton]
    constructor
    · rintro rfl
      refine ⟨by rw [Nat.testBit_two_pow]; exact decide_eq_true rfl, fun o h => ?_⟩
      rw [Nat.testBit_two_pow] at h
      exact .inl (of_decide_eq_true h).symm
    · rintro ⟨h1, h2⟩
      refine Nat.eq_of_testBit_eq fun j => ?_
      rw [Nat.testBit_two_pow]
      by_cases e : u = j
      · subst e
        rw [h1, decide_eq_true rfl]
      · rw [decide_eq_false e]
        cases q : m.testBit j with
        | false => rfl
        | true =>
          rcases h2 j q with z | z
          · exact absurd z.symm e
          · omega
  | k + 1, m => by
    unfold rowsL
    by_cases c : u + 1 + k ∈ hd
    · rw [if_pos c, rowsL_mem k]
      refine and_congr_right fun _ => ⟨fun h o ho => ?_, fun h o ho => ?_⟩
      · rcases h o ho with z | ⟨z1, z2, z3⟩
        · exact .inl z
        · exact .inr ⟨z1, by omega, z3⟩
      · rcases h o ho with z | ⟨z1, z2, z3⟩
        · exact .inl z
        · refine .inr ⟨z1, ?_, z3⟩
          by_cases e : o = u + 1 + k
          · exact absurd (e ▸ c) z3
          · omega
    · rw [if_neg c, List.mem_append, List.mem_map]
      constructor
      · rintro (h | ⟨m', h, rfl⟩)
        · obtain ⟨h1, h2⟩ := (rowsL_mem k).mp h
          refine ⟨h1, fun o ho => ?_⟩
          rcases h2 o ho with z | ⟨z1, z2, z3⟩
          · exact .inl z
          · exact .inr ⟨z1, by omega, z3⟩
        · obtain ⟨h1, h2⟩ := (rowsL_mem k).mp h
          refine ⟨by rw [Nat.testBit_or, h1, Bool.true_or], fun o ho => ?_⟩
          rw [Nat.testBit_or, Nat.testBit_two_pow, Bool.or_eq_true] at ho
          rcases ho with ho | ho
          · rcases h2 o ho with z | ⟨z1, z2, z3⟩
            · exact .inl z
            · exact .inr ⟨z1, by omega, z3⟩
          · have e := of_decide_eq_true ho
            subst e
            exact .inr ⟨by omega, by omega, c⟩
      · rintro ⟨h1, h2⟩
        cases q : m.testBit (u + 1 + k) with
        | false =>
          refine .inl ((rowsL_mem k).mpr ⟨h1, fun o ho => ?_⟩)
          rcases h2 o ho with z | ⟨z1, z2, z3⟩
          · exact .inl z
          · refine .inr ⟨z1, ?_, z3⟩
            by_cases e : o = u + 1 + k
            · rw [e, q] at ho
              cases ho
            · omega
        | true =>
          refine .inr ⟨m ^^^ 2 ^ (u + 1 + k), (rowsL_mem k).mpr ⟨?_, fun o ho => ?_⟩, Nat.eq_of_testBit_eq fun j => ?_⟩
          · rw [Nat.testBit_xor, Nat.testBit_two_pow, h1, decide_eq_false (by omega)]
            rfl
          · rw [Nat.testBit_xor, Nat.testBit_two_pow] at ho
            by_cases e : u + 1 + k = o
            · subst e
              rw [q, decide_eq_true rfl] at ho
              cases ho
            · rw [decide_eq_false e, Bool.xor_false] at ho
              rcases h2 o ho with z | ⟨z1, z2, z3⟩
              · exact .inl z
              · exact .inr ⟨z1, by omega, z3⟩
          · rw [Nat.testBit_or, Nat.testBit_xor, Nat.testBit_two_pow]
            by_cases e : u + 1 + k = j
            · subst e
              rw [q, decide_eq_true rfl]
              rfl
            · rw [decide_eq_false e, Bool.xor_false, Bool.or_false]
theorem rowsL_nodup {u : Nat} {hd : List Nat} : ∀ k, (rowsL u hd k).Nodup
  | 0 => List.nodup_cons.mpr ⟨List.not_mem_nil, List.nodup_nil⟩
  | k + 1 => by
    unfold rowsL
    by_cases c : u + 1 + k ∈ hd
    · rw [if_pos c]
      exact rowsL_nodup k
    · rw [if_neg c]
      have no : ∀ {m}, m ∈ rowsL u hd k → m.testBit (u + 1 + k) = false := fun {m} h => by
        cases q : m.testBit (u + 1 + k) with
        | false => rfl
        | true =>
          rcases ((rowsL_mem k).mp h).2 _ q with z | z
          · omega
          · omega
      refine List.nodup_append.mpr ⟨rowsL_nodup k, ?_, ?_⟩
      · refine List.pairwise_map.mpr ((rowsL_nodup k).imp_of_mem fun {a b} ha hb ne z => ne ?_)
        refine Nat.eq_of_testBit_eq fun j => ?_
        have := congrArg (fun x => x.testBit j) z
        simp only [Nat.testBit_or, Nat.testBit_two_pow] at this
        by_cases e : u + 1 + k = j
        · subst e
          rw [no ha, no hb]
        · rw [decide_eq_false e, Bool.or_false, Bool.or_false] at this
          exact this
      · intro a ha b hb z
        obtain ⟨m, hm, rfl⟩ := List.mem_map.mp hb
        have := no ha
        rw [z, Nat.testBit_or, Nat.testBit_two_pow, decide_eq_true rfl, Bool.or_true] at this
        cases this
def linesA (n u : Nat) (hd : List Nat) : List (Nat × Nat) := (rowsL u hd (n - 1 - u)).flatMap fun m => [(m, 0), (m, 1)]
def headsF (fl : List (Nat × Nat)) : List Nat := fl.map fun l => hd0 l.1
def FL (n : Nat) : Nat → List (List (Nat × Nat))
  | 0 => [[]]
  | j + 1 => FL n j ++ (FL n j).flatMap fun fl => (linesA n (n - 1 - j) (headsF fl)).map fun l => l :: fl
theorem linesA_mem {n u : Nat} {hd : List Nat} {l : Nat × Nat} (hu : u < n) : l ∈ linesA n u hd ↔ l.2 < 2 ∧ l.1.testBit u = true ∧ ∀ o, l.1.testBit o = true → o = u ∨ (u < o ∧ o < n ∧ o ∉ hd) := by
  unfold linesA
  rw [List.mem_flatMap]
  constructor
  · rintro ⟨m, hm, hl⟩
    obtain ⟨h1, h2⟩ := (rowsL_mem _).mp hm
    have : l.1 = m ∧ l.2 < 2 := by
      rcases List.mem_cons.mp hl with rfl | hl
      · exact ⟨rfl, by show 0 < 2; decide⟩
      · rw [List.mem_singleton.mp hl]
        exact ⟨rfl, by show 1 < 2; decide⟩
    refine ⟨this.2, by rw [this.1]; exact h1, fun o ho => ?_⟩
    rw [this.1] at ho
    rcases h2 o ho with z | ⟨z1, z2, z3⟩
    · exact .inl z
    · exact .inr ⟨z1, by omega, z3⟩
  · rintro ⟨h1, h2, h3⟩
    refine ⟨l.1, (rowsL_mem _).mpr ⟨h2, fun o ho => ?_⟩, ?_⟩
    · rcases h3 o ho with z | ⟨z1, z2, z3⟩
      · exact .inl z
      · exact .inr ⟨z1, by omega, z3⟩
    · obtain ⟨m, b⟩ := l
      have : b = 0 ∨ b = 1 := by
        have : b < 2 := h1
        omega
      rcases this with rfl | rfl <;> simp
theorem linesA_line {n u : Nat} {hd : List Nat} {l : Nat × Nat} (hu : u < n) (n62 : n ≤ 62) (h : l ∈ linesA n u hd) : l.1 < 2 ^ n ∧ l.1 ≠ 0 ∧ l.2 < 2 ∧ hd0 l.1 = u := by
  obtain ⟨h1, h2, h3⟩ := (linesA_mem hu).mp h
  have lt : l.1 < 2 ^ n := Nat.lt_pow_two_of_testBit _ fun i hi => by
    cases q : l.1.testBit i with
    | false => rfl
    | true =>
      rcases h3 i q with z | z
      · omega
      · omega
  refine ⟨lt, fun z => ?_, h1, hd0_of (low_iff.mpr ⟨by omega, h2, fun j hj => ?_⟩)⟩
  · rw [z, Nat.zero_testBit] at h2
    cases h2
  · cases q : l.1.testBit j with
    | false => rfl
    | true =>
      rcases h3 j q with z | z
      · omega
      · omega
theorem FL_mem {n : Nat} (n62 : n ≤ 62) : ∀ j, j ≤ n → ∀ fl, fl ∈ FL n j ↔ WF n fl ∧ ∀ l ∈ fl, n ≤ hd0 l.1 + j
  | 0, _, fl => by
    unfold FL
    rw [List.mem_singleton]
    constructor
    · rintro rfl
      exact ⟨wf_nil n, fun l h => by cases h⟩
    · rintro ⟨W, h⟩
      cases fl with
      | nil => rfl
      | cons l r =>
        have a : n ≤ hd0 l.1 := h l List.mem_cons_self
        have ok := W.ok l List.mem_cons_self
        obtain ⟨_, b, _⟩ := low_iff.mp (hd0_spec (p63 n62 ok.1) ok.2.1)
        rw [Nat.testBit_lt_two_pow (Nat.lt_of_lt_of_le ok.1 (Nat.pow_le_pow_right (by decide) a))] at b
        cases b
  | j + 1, hj, fl => by
    have ih := FL_mem n62 j (by omega)
    have hu : n - 1 - j < n := by omega
    unfold FL
    rw [List.mem_append, List.mem_flatMap]
    constructor
    · rintro (h | ⟨r, hr, hl⟩)
      · obtain ⟨W, h⟩ := (ih fl).mp h
        exact ⟨W, fun l hl => by have := h l hl; omega⟩
      · obtain ⟨W, h⟩ := (ih r).mp hr
        obtain ⟨l, hl1, rfl⟩ := List.mem_map.mp hl
        obtain ⟨l1, l2, l3, l4⟩ := linesA_line hu n62 hl1
        obtain ⟨_, m2, m3⟩ := (linesA_mem hu).mp hl1
        have up : ∀ k ∈ r, n - 1 - j < hd0 k.1 := fun k hk => by have := h k hk; omega
        refine ⟨⟨fun k hk => ?_, ?_, fun k hk g hg ne => ?_⟩, fun k hk => ?_⟩
        · rcases List.mem_cons.mp hk with rfl | hk
          · exact ⟨l1, l2, l3⟩
          · exact W.ok k hk
        · rw [List.map_cons]
          refine List.pairwise_cons.mpr ⟨fun x hx => ?_, W.asc⟩
          obtain ⟨k, hk, rfl⟩ := List.mem_map.mp hx
          show hd0 l.1 < hd0 k.1
          rw [l4]
          exact up k hk
        · rcases List.mem_cons.mp hk with rfl | hk2 <;> rcases List.mem_cons.mp hg with rfl | hg2
          · exact absurd rfl ne
          · cases q : k.1.testBit (hd0 g.1) with
            | false => rfl
            | true =>
              rcases m3 _ q with z | ⟨_, _, z⟩
              · rw [l4, z] at ne
                exact absurd rfl ne
              · exact absurd (List.mem_map.mpr ⟨g, hg2, rfl⟩) z
          · rw [l4]
            have ok := W.ok k hk2
            exact (low_iff.mp (hd0_spec (p63 n62 ok.1) ok.2.1)).2.2 _ (up k hk2)
          · exact W.oth k hk2 g hg2 ne
        · rcases List.mem_cons.mp hk with rfl | hk
          · rw [l4]
            omega
          · have := h k hk
            omega
    · rintro ⟨W, h⟩
      cases fl with
      | nil => exact .inl ((ih []).mpr ⟨wf_nil n, fun l h => by cases h⟩)
      | cons l r =>
        obtain ⟨Wr, up⟩ := wf_tail W
        have hl := h l List.mem_cons_self
        by_cases c : n ≤ hd0 l.1 + j
        · refine .inl ((ih _).mpr ⟨W, fun k hk => ?_⟩)
          rcases List.mem_cons.mp hk with rfl | hk
          · exact c
          · have := up k hk
            omega
        · have e : hd0 l.1 = n - 1 - j := by omega
          refine .inr ⟨r, (ih r).mpr ⟨Wr, fun k hk => by have := up k hk; omega⟩, List.mem_map.mpr ⟨l, (linesA_mem hu).mpr ⟨?_, ?_, fun o ho => ?_⟩, rfl⟩⟩
          · exact (W.ok l List.mem_cons_self).2.2
          · have ok := W.ok l List.mem_cons_self
            rw [← e]
            exact (low_iff.mp (hd0_spec (p63 n62 ok.1) ok.2.1)).2.1
          · have ok := W.ok l List.mem_cons_self
            have lo := (low_iff.mp (hd0_spec (p63 n62 ok.1) ok.2.1)).2.2
            by_cases e2 : o = n - 1 - j
            · exact .inl e2
            · refine .inr ⟨?_, ?_, fun z => ?_⟩
              · refine Nat.lt_of_not_le fun z => ?_
                rw [lo o (by omega)] at ho
                cases ho
              · refine Nat.lt_of_not_le fun z => ?_
                rw [Nat.testBit_lt_two_pow (Nat.lt_of_lt_of_le ok.1 (Nat.pow_le_pow_right (by decide) z))] at ho
                cases ho
              · obtain ⟨k, hk, ek⟩ := List.mem_map.mp z
                have ek : hd0 k.1 = o := ek
                have := W.oth l List.mem_cons_self k (List.mem_cons_of_mem _ hk) (by rw [ek, e]; exact e2)
                rw [ek, ho] at this
                cases this
theorem linesA_nodup (n u : Nat) (hd : List Nat) : (linesA n u hd).Nodup := by
  unfold linesA
  refine List.pairwise_flatMap.mpr ⟨fun m _ => ?_, (rowsL_nodup _).imp fun {a b} ne x hx y hy z => ne ?_⟩
  · refine List.nodup_cons.mpr ⟨fun z => ?_, List.nodup_cons.mpr ⟨List.not_mem_nil, List.nodup_nil⟩⟩
    have := List.mem_singleton.mp z
    injection this with _ e
    cases e
  · have fst : ∀ {c : Nat} {x : Nat × Nat}, x ∈ [(c, 0), (c, 1)] → x.1 = c := fun {c x} h => by
      rcases List.mem_cons.mp h with rfl | h
      · rfl
      · rw [List.mem_singleton.mp h]
    rw [← fst hx, ← fst hy, z]
theorem FL_nodup {n : Nat} (n62 : n ≤ 62) : ∀ j, j ≤ n → (FL n j).Nodup
  | 0, _ => List.nodup_cons.mpr ⟨List.not_mem_nil, List.nodup_nil⟩
  | j + 1, hj => by
    have hu : n - 1 - j < n := by omega
    unfold FL
    refine List.nodup_append.mpr ⟨FL_nodup n62 j (by omega), List.pairwise_flatMap.mpr ⟨fun fl _ => ?_, (FL_nodup n62 j (by omega)).imp fun {a b} ne x hx y hy z => ne ?_⟩, fun a ha b hb z => ?_⟩
    · exact List.pairwise_map.mpr ((linesA_nodup _ _ _).imp fun {a b} ne z => ne (by injection z))
    · obtain ⟨r, hr, hl⟩ := List.mem_flatMap.mp hb
      obtain ⟨l, hl1, rfl⟩ := List.mem_map.mp hl
      obtain ⟨_, h⟩ := (FL_mem n62 j (by omega) _).mp ha
      have := h l (by rw [z]; exact List.mem_cons_self)
      rw [(linesA_line hu n62 hl1).2.2.2] at this
      omega
    · obtain ⟨l, _, rfl⟩ := List.mem_map.mp hx
      obtain ⟨k, _, rfl⟩ := List.mem_map.mp hy
      injection z
theorem FL_all {n : Nat} (n62 : n ≤ 62) (fl : List (Nat × Nat)) : fl ∈ FL n n ↔ WF n fl := by
  rw [FL_mem n62 n (Nat.le_refl _)]
  exact ⟨fun h => h.1, fun h => ⟨h, fun l _ => Nat.le_add_left _ _⟩⟩
theorem all_of_halves {n : Nat} (n62 : n ≤ 62) {ks : List (List (Nat × Nat))} (h0 : [] ∈ ks) (hc : ∀ fl, fl ∈ ks → ∀ m b gs, m < 2 ^ n → b < 2 → (wh (hsOf fl) (m, 0)).1 ≠ 0 → lflat (fl ++ [(m, b)]) = some gs → canon gs ∈ ks) :
    ∀ fl, WF n fl → fl ∈ ks
  | [], _ => h0
  | l :: r, W => by
    obtain ⟨Wr, up⟩ := wf_tail W
    have ih := all_of_halves n62 h0 hc r Wr
    obtain ⟨F, e, hlt⟩ := wf_flat n62 Wr
    obtain ⟨F2, e2, hlt2⟩ := wf_flat n62 W
    have ok := W.ok l List.mem_cons_self
    have nz : (wh (hsOf r) (l.1, 0)).1 ≠ 0 := by
      have lb := (low_iff.mp (hd0_spec (p63 n62 ok.1) ok.2.1)).2.1
      have go : ∀ (gs : List (Nat × Nat × Nat)) (q : Nat × Nat), (∀ e ∈ gs, e.2.1.testBit (hd0 l.1) = false) → (gs.foldl (wh1 l.1) q).1.testBit (hd0 l.1) = q.1.testBit (hd0 l.1) := by
        intro gs
        induction gs with
        | nil => intro q _; rfl
        | cons e gs ih =>
          intro q h
          rw [List.foldl_cons, ih _ fun g hg => h g (List.mem_cons_of_mem _ hg)]
          unfold wh1
          split
          · show (q.1 ^^^ e.2.1).testBit _ = _
            rw [Nat.testBit_xor, h e List.mem_cons_self, Bool.xor_false]
          · rfl
      intro z
      have k := go (hsOf r) (l.1, 0) fun e he => by
        obtain ⟨k, hk, rfl⟩ := List.mem_map.mp he
        exact W.oth k (List.mem_cons_of_mem _ hk) l List.mem_cons_self (Nat.ne_of_lt (up k hk))
      have z : ((hsOf r).foldl (wh1 l.1) (l.1, 0)).1 = 0 := z
      rw [z, Nat.zero_testBit, lb] at k
      cases k
    obtain ⟨gs, eg, FG, _, sg⟩ := half_is F n62 hlt ok.1 ok.2.2 nz
    rw [e] at eg
    have := hc r ih l.1 l.2 gs ok.1 ok.2.2 nz eg
    have ec : canon gs = l :: r := by
      rw [← e2]
      refine canon_uniq FG F2 fun f => ?_
      rw [sg]
      unfold sol hsOf
      rw [List.map_cons, List.forall_mem_cons]
      exact And.comm
    rw [ec] at this
    exact this
end Es
set_option Elab.async false
set_option linter.all false
set_option maxRecDepth 100000
set_option maxHeartbeats 4000000
namespace Es
open PySem PySem.Spec PyProof.Rows L2
open PySem.W (alike alikeAll keyToks keyToksAll dataLt dataLe)
def flD (ls : List (Nat × Nat)) : PyData := .tuple (ls.map lineD)
def sortedD (n : Nat) : List PyData := ((FL n n).mergeSort (dataLe false flD)).map flD
theorem alike_linesL : ∀ (a b : List (Nat × Nat)), alikeAll (a.map lineD) (b.map lineD) = true
  | [], _ => by rw [List.map_nil]; simp [alikeAll]
  | _ :: _, [] => by rw [List.map_nil]; simp [alikeAll]
  | x :: a, y :: b => by
    rw [List.map_cons, List.map_cons, alikeAll, alike_lineD, alike_linesL a b]
    rfl
theorem alike_flD (a b : List (Nat × Nat)) : alike (flD a) (flD b) = true := by
  unfold flD
  rw [alike]
  exact alike_linesL a b
theorem alike_all {β : Type} {f : β → List (Nat × Nat)} {bs : List β} : PySem.W.AllAlike (bs.map fun b => flD (f b)) := fun d hd d' hd' => by
  obtain ⟨a, _, rfl⟩ := List.mem_map.mp hd
  obtain ⟨b, _, rfl⟩ := List.mem_map.mp hd'
  exact alike_flD _ _
theorem sort_ok {ls : List (List (Nat × Nat))} (h : ∃ r, ls = [] :: r) : PySem.W.SortOk (ls.map flD) := by
  obtain ⟨r, rfl⟩ := h
  refine .inr ⟨⟨r.map flD, rfl⟩, fun d hd => ?_⟩
  obtain ⟨a, _, rfl⟩ := List.mem_map.mp hd
  exact ⟨_, rfl⟩
theorem FL_head (n : Nat) : ∀ j, ∃ r, FL n j = [] :: r
  | 0 => ⟨[], rfl⟩
  | j + 1 => by
    obtain ⟨r, e⟩ := FL_head n j
    unfold FL
    rw [e]
    exact ⟨_, rfl⟩
theorem FL_len (n : Nat) : ∀ j fl, fl ∈ FL n j → fl.length ≤ j
  | 0, fl, h => by
    rw [List.mem_singleton.mp h]
    exact Nat.le_refl _
  | j + 1, fl, h => by
    unfold FL at h
    rcases List.mem_append.mp h with h | h
    · exact Nat.le_succ_of_le (FL_len n j fl h)
    · obtain ⟨r, hr, hl⟩ := List.mem_flatMap.mp h
      obtain ⟨l, _, rfl⟩ := List.mem_map.mp hl
      exact Nat.succ_le_succ (FL_len n j r hr)
theorem FL_many : ∀ n, n ≤ 4 → ∀ j, j ≤ n → (FL n j).length ≤ 307
  | 0, _, j, h => by
    have : j = 0 := by omega
    subst this
    decide +kernel
  | 1, _, j, h => by
    have : j = 0 ∨ j = 1 := by omega
    rcases this with rfl | rfl <;> decide +kernel
  | 2, _, j, h => by
    have : j = 0 ∨ j = 1 ∨ j = 2 := by omega
    rcases this with rfl | rfl | rfl <;> decide +kernel
  | 3, _, j, h => by
    have : j = 0 ∨ j = 1 ∨ j = 2 ∨ j = 3 := by omega
    rcases this with rfl | rfl | rfl | rfl <;> decide +kernel
  | 4, _, j, h => by
    have : j = 0 ∨ j = 1 ∨ j = 2 ∨ j = 3 ∨ j = 4 := by omega
    rcases this with rfl | rfl | rfl | rfl | rfl <;> decide +kernel
  | n + 5, h, _, _ => by omega
theorem sortedD_facts {n : Nat} (n4 : n ≤ 4) : nice (.list (sortedD n)) = true ∧ (PyData.list (sortedD n)).depth ≤ 40 ∧ (PyData.list (sortedD n)).weight ≤ 2 ^ 20 := by
  have pm := List.mergeSort_perm (FL n n) (dataLe false flD)
  have one : ∀ d ∈ sortedD n, nice d = true ∧ d.depth ≤ 3 ∧ d.weight ≤ 352 := fun d hd => by
    obtain ⟨fl, hf, rfl⟩ := List.mem_map.mp hd
    have hf := pm.mem_iff.mp hf
    have W := (FL_all (by omega) fl).mp hf
    obtain ⟨a, b, c⟩ := linesT_facts (n := n) (by omega) (ls := fl) fun l hl => ⟨(W.ok l hl).1, (W.ok l hl).2.2⟩
    have := FL_len n n fl hf
    exact ⟨a, b, by show (PyData.tuple (fl.map lineD)).weight ≤ 352; omega⟩
  have len : (sortedD n).length ≤ 307 := by
    unfold sortedD
    rw [List.length_map, List.length_mergeSort]
    exact FL_many n n4 n (Nat.le_refl _)
  generalize sortedD n = ds at one len
  refine ⟨niceAll_iff.mpr fun d hd => (one d hd).1, ?_, ?_⟩
  · have : PyData.depthAll ds ≤ 3 := by
      clear len
      induction ds with
      | nil => exact Nat.zero_le _
      | cons d ds ih =>
        show max d.depth (PyData.depthAll ds) ≤ 3
        have a := (one d List.mem_cons_self).2.1
        have b := ih fun x hx => one x (List.mem_cons_of_mem _ hx)
        omega
    show PyData.depthAll ds + 1 ≤ 40
    omega
  · have : PyData.weightAll ds ≤ 353 * ds.length := by
      clear len
      induction ds with
      | nil => exact Nat.zero_le _
      | cons d ds ih =>
        show d.weight + 1 + PyData.weightAll ds ≤ 353 * (ds.length + 1)
        have a := (one d List.mem_cons_self).2.2
        have b := ih fun x hx => one x (List.mem_cons_of_mem _ hx)
        omega
    show PyData.weightAll ds ≤ 2 ^ 20
    omega
theorem sortedD_of {n : Nat} (n62 : n ≤ 62) {ks : List (List (Nat × Nat))} (nd : ks.Nodup) (h : ∀ fl, fl ∈ ks ↔ WF n fl) : (ks.map flD).Perm ((FL n n).map flD) :=
  ((List.perm_ext_iff_of_nodup nd (FL_nodup n62 n (Nat.le_refl _))).mpr fun fl => (h fl).trans (FL_all n62 fl).symm).map flD
def sp_lines_ahead (K : PySem.W.Frag) : Sp := fun vs H Q _ => ∃ (n u : Nat) (v : V) (fl : List (Nat × Nat)), vs = [.int (n : Int), .int (u : Int), v] ∧ LinesV K H v fl ∧ n ≤ 4 ∧ u < n ∧ (∀ l ∈ fl, l.1 < 2 ^ n ∧ l.1 ≠ 0) ∧ fl.length ≤ 4 ∧
  ∀ H' p us, Same H H' → H p = none → H' p = some (.lst us) → Paired (LineV K H') us (linesA n u (headsF fl)) → Q (.ref p) H'
def sp_all_flats (K : PySem.W.Frag) : Sp := fun vs H Q _ => ∃ (n : Nat), vs = [.int (n : Int)] ∧ n ≤ 4 ∧
  ∀ H' p us, Same H H' → H p = none → H' p = some (.lst us) → (∀ H2, Same H' H2 → DpAll K H2 us (sortedD n)) → Q (.ref p) H'
def sp_law_all_flats (K : PySem.W.Frag) : Sp := sp_all_flats K
theorem bts_put {m o : Nat} (h : ∀ v, m.testBit v = true → v < o) (o63 : o < 63) : bts (m ||| 2 ^ o) = bts m ++ [o] := by
  refine (bts_of ?_ fun v => ?_).symm
  · refine List.pairwise_append.mpr ⟨bts_lt m, List.pairwise_singleton _ _, fun a ha b hb => ?_⟩
    rw [List.mem_singleton.mp hb]
    exact h a (mem_bts.mp ha).2
  · rw [List.mem_append, mem_bts, List.mem_singleton, Nat.testBit_or, Nat.testBit_two_pow, Bool.or_eq_true, decide_eq_true_eq]
    constructor
    · rintro (⟨a, b⟩ | e)
      · exact ⟨a, .inl b⟩
      · exact ⟨by omega, .inr e.symm⟩
    · rintro ⟨a, b | b⟩
      · exact .inl ⟨a, b⟩
      · exact .inr b.symm
theorem inV_iv (k : Nat) : ∀ l : List Nat, inV (.int (k : Int)) (iv l) = decide (k ∈ l)
  | [] => rfl
  | a :: l => by
    have ih := inV_iv k l
    unfold inV at ih ⊢
    show (eqV (.int (a : Int)) (.int (k : Int)) || (iv l).any fun y => eqV y (.int (k : Int))) = decide (k ∈ a :: l)
    rw [ih]
    have e : eqV (.int (a : Int)) (.int (k : Int)) = decide (a = k) := by
      show ((a : Int) == (k : Int)) = decide (a = k)
      by_cases c : a = k
      · rw [c, decide_eq_true rfl]
        exact beq_self_eq_true _
      · rw [decide_eq_false c]
        exact beq_eq_false_iff_ne.mpr fun z => c (Int.ofNat.inj z)
    rw [e, ← Bool.decide_or, decide_eq_decide, List.mem_cons]
    constructor
    · rintro (h | h)
      · exact .inl h.symm
      · exact .inr h
    · rintro (h | h)
      · exact .inl h.symm
      · exact .inr h
theorem rowsL_len (u : Nat) (hd : List Nat) : ∀ k, (rowsL u hd k).length ≤ 2 ^ k
  | 0 => Nat.le_refl _
  | k + 1 => by
    have := rowsL_len u hd k
    have p1 : 2 ^ (k + 1) = 2 * 2 ^ k := by rw [Nat.pow_succ]; omega
    unfold rowsL
    split
    · omega
    · rw [List.length_append, List.length_map]
      omega
theorem lc2_lst {K : PySem.W.Frag} {a : Addr} {xs : List V} {g1 : TG} {tt1 : TT} {te : TE} {vs1 : List Nat} {σ2 : L2.St} {H4 : Hp} {D : Addr} {Nx : Hp → Prop} (Pv : Nat → Hp → Prop) (h0 : Pv 0 H4) (hl : ∀ i H, Pv i H → SqL K H a xs)
    (hs : ∀ i x H, xs[i]? = some x → Pv i H → g1 x (wipe σ2 vs1) H fun σ3 H5 => wipe σ3 vs1 = wipe σ2 vs1 ∧ tt1 σ3 H5 fun b H6 =>
      if b = true then te σ3 H6 fun y H7 => ∃ acc, H7 D = some (.lst acc) ∧ acc.length < sizeLine ∧ Pv (i + 1) (upd H7 D (.lst (acc ++ [y]))) else Pv (i + 1) H6) (hd : ∀ H, Pv xs.length H → Nx H) :
    ∃ W1 : Nat → Nat → Hp → Prop, (∃ m, W1 0 m H4) ∧ ∀ j k H, W1 j k H →
      ((Itl K a).stop j H ∧ Nx H) ∨ ((Itl K a).go j H ∧ ∃ Nx1 : Hp → Prop, (∀ H', Nx1 H' → ∃ k', k' < k ∧ W1 (j + 1) k' H') ∧ ∀ x H', (Itl K a).yld j H x H' → g1 x (wipe σ2 vs1) H' fun σ3 H5 => wipe σ3 vs1 = wipe σ2 vs1 ∧ tt1 σ3 H5 fun b H6 =>
        if b = true then te σ3 H6 fun y H7 => ∃ acc, H7 D = some (.lst acc) ∧ acc.length < sizeLine ∧ Nx1 (upd H7 D (.lst (acc ++ [y]))) else Nx1 H6) := by
  refine ⟨fun i m H => i + m = xs.length ∧ Pv i H, ⟨xs.length, Nat.zero_add _, h0⟩, fun i m H ⟨hm, p⟩ => ?_⟩
  have q := hl i H p
  cases m with
  | zero =>
    have e : i = xs.length := by omega
    subst e
    exact .inl ⟨⟨xs, q, Nat.le_refl _⟩, hd H p⟩
  | succ m =>
    have hlt : i < xs.length := by omega
    refine .inr ⟨⟨xs, xs[i], q, List.getElem?_eq_getElem hlt⟩, Pv (i + 1), fun H' p' => ⟨m, Nat.lt_succ_self _, by omega, p'⟩, fun x H' y => ?_⟩
    obtain ⟨e, y⟩ := y
    subst e
    exact hs i x _ (y xs q) p
theorem paired_pairs {α β : Type} {R : α → β → Prop} : ∀ {xs : List α} {ys : List β}, Paired R xs ys → ∃ cs : List (α × β), xs = cs.map (·.1) ∧ ys = cs.map (·.2) ∧ ∀ c ∈ cs, R c.1 c.2
  | _, _, .nil => ⟨[], rfl, rfl, fun _ h => by cases h⟩
  | _, _, .cons (a := a) (b := b) h t => by
    obtain ⟨cs, rfl, rfl, hc⟩ := paired_pairs t
    refine ⟨(a, b) :: cs, rfl, rfl, fun c m => ?_⟩
    rcases List.mem_cons.mp m with rfl | m
    · exact h
    · exact hc c m
theorem dp_pairs {K : PySem.W.Frag} {H : Hp} : ∀ {bs : List (V × PyData)}, (∀ b ∈ bs, Dp K H b.1 b.2) → DpAll K H (bs.map (·.1)) (bs.map (·.2))
  | [], _ => .nil
  | b :: bs, h => .cons (h b List.mem_cons_self) (dp_pairs fun x hx => h x (List.mem_cons_of_mem _ hx))
theorem flD_depth (ls : List (Nat × Nat)) : (flD ls).depth ≤ 40 := by
  have := depth_lines ls
  show PyData.depthAll _ + 1 ≤ 40
  omega
theorem dpAll_len {K : PySem.W.Frag} {H : Hp} : ∀ {us : List V} {ds : List PyData}, DpAll K H us ds → us.length = ds.length
  | _, _, .nil => rfl
  | _, _, .cons _ t => by rw [List.length_cons, List.length_cons, dpAll_len t]
end Es
set_option Elab.async false
set_option linter.all false
set_option maxRecDepth 100000
set_option maxHeartbeats 4000000
namespace Es
open PySem PySem.Spec PyProof.Rows L2
def flatK (fl : List (Nat × Nat)) : NestedKey := .tup (fl.map lineK)
theorem lines_datas : ∀ fl : List (Nat × Nat), NestedKey.datas (fl.map lineK) = fl.map lineD
  | [] => rfl
  | l :: fl => by rw [List.map_cons, NestedKey.datas, lines_datas fl, lineK_data]; rfl
theorem lines_depthK : ∀ fl : List (Nat × Nat), NestedKey.depthAll (fl.map lineK) ≤ 2
  | [] => Nat.zero_le _
  | l :: fl => by
    have a := lines_depthK fl
    have b : (lineK l).depth ≤ 2 := by
      unfold lineK
      rw [NestedKey.depth, NestedKey.depthAll, NestedKey.depthAll, NestedKey.depthAll, NestedKey.depth, NestedKey.depth, nums_depth]
      decide
    rw [List.map_cons, NestedKey.depthAll]
    omega
theorem lines_numK : ∀ fl : List (Nat × Nat), nums (fl.map lineK) = true
  | [] => rfl
  | l :: fl => by rw [List.map_cons, nums, lineK_num, lines_numK fl]; rfl
theorem flatK_data (fl : List (Nat × Nat)) : (flatK fl).data = flD fl := by
  unfold flatK flD
  rw [NestedKey.data, lines_datas]
theorem flatK_key {K : PySem.W.Frag} {H : Hp} {a : Addr} {fl : List (Nat × Nat)} (h : LinesV K H (.ref a) fl) : KeyV K H (a, flatK fl) := by
  refine ⟨?_, ?_, ?_⟩
  · show Dp K H (.ref a) (flatK fl).data
    rw [flatK_data]
    exact dp_linesV h
  · show (flatK fl).depth ≤ 8
    unfold flatK
    rw [NestedKey.depth]
    have := lines_depthK fl
    omega
  · show num (flatK fl) = true
    unfold flatK
    rw [num]
    exact lines_numK fl
theorem flatK_inj {n : Nat} (n62 : n ≤ 62) : ∀ {a b : List (Nat × Nat)}, (∀ l ∈ a, l.1 < 2 ^ n) → (∀ l ∈ b, l.1 < 2 ^ n) → flatK a = flatK b → a = b := by
  have go : ∀ a b : List (Nat × Nat), (∀ l ∈ a, l.1 < 2 ^ n) → (∀ l ∈ b, l.1 < 2 ^ n) → a.map lineK = b.map lineK → a = b := by
    intro a
    induction a with
    | nil =>
      intro b _ _ e
      cases b with
      | nil => rfl
      | cons y b => cases e
    | cons x a ih =>
      intro b ha hb e
      cases b with
      | nil => cases e
      | cons y b =>
        rw [List.map_cons, List.map_cons] at e
        injection e with e1 e2
        rw [lineK_inj (p63 n62 (ha x List.mem_cons_self)) (p63 n62 (hb y List.mem_cons_self)) e1, ih b (fun l h => ha l (List.mem_cons_of_mem _ h)) (fun l h => hb l (List.mem_cons_of_mem _ h)) e2]
  intro a b ha hb e
  unfold flatK at e
  injection e with e
  exact go a b ha hb e
abbrev Cs := List (Addr × List (Nat × Nat))
def entsC (cs : Cs) : List NEnt := cs.map fun c => (flatK c.2, c.1, V.bl true)
def refsC (ss : Cs) : List V := ss.map fun c => V.ref c.1
structure StA (K : PySem.W.Frag) (P : Program) (w : World) (H : Hp) (d l : Addr) (cs ss : Cs) : Prop where
  ed : H d = some (DictNO P w d (entsC cs))
  el : H l = some (.lst (refsC ss))
  hc : ∀ c ∈ cs, LinesV K H (.ref c.1) c.2
  hs : ∀ c ∈ ss, LinesV K H (.ref c.1) c.2
theorem StA.same {K : PySem.W.Frag} {P : Program} {w : World} {H H' : Hp} {d l : Addr} {cs ss : Cs} (s : Same H H') (h : StA K P w H d l cs ss) : StA K P w H' d l cs ss :=
  ⟨s _ _ h.ed, s _ _ h.el, fun c m => (h.hc c m).same s, fun c m => (h.hs c m).same s⟩
theorem sqT_dict {K : PySem.W.Frag} {P : Program} {w : World} {H H' : Hp} {a d : Addr} {xs : List V} {L : List NEnt} (e : H d = some (DictNO P w d L)) (s : But d H H') (h : SqT K H a xs) : SqT K H' a xs := by
  rcases h with (h | ⟨o, h⟩) | h
  · refine .inl (.inl (s _ _ (fun z => ?_) h))
    rw [z, e] at h
    cases h
  · refine .inl (.inr ⟨o, s _ _ (fun z => ?_) h⟩)
    rw [z, e] at h
    cases h
  · exact .inr h
theorem LinesV.dict {K : PySem.W.Frag} {P : Program} {w : World} {H H' : Hp} {v : V} {d : Addr} {L : List NEnt} {fl : List (Nat × Nat)} (e : H d = some (DictNO P w d L)) (s : But d H H') (h : LinesV K H v fl) : LinesV K H' v fl := by
  obtain ⟨t, us, rfl, ht, hP⟩ := h
  refine ⟨t, us, rfl, sqT_dict e s ht, Paired.mono2 (fun v l h => ?_) hP⟩
  obtain ⟨t, r, rfl, h1, ⟨p, rfl, h2⟩⟩ := h
  exact ⟨t, .ref p, rfl, sqT_dict e s h1, p, rfl, sqT_dict e s h2⟩
theorem StA.keys {K : PySem.W.Frag} {P : Program} {w : World} {H : Hp} {d l : Addr} {cs ss : Cs} (h : StA K P w H d l cs ss) : KeysN K H (entsC cs) := fun e he => by
  obtain ⟨c, hc, rfl⟩ := List.mem_map.mp he
  exact flatK_key (h.hc c hc)
theorem StA.ne {K : PySem.W.Frag} {P : Program} {w : World} {H : Hp} {d l : Addr} {cs ss : Cs} (h : StA K P w H d l cs ss) : d ≠ l := fun z => by
  have := h.ed
  rw [z, h.el] at this
  cases this
theorem StA.put {K : PySem.W.Frag} {P : Program} {w : World} {H : Hp} {d l : Addr} {cs ss : Cs} (h : StA K P w H d l cs ss) {x : Addr × List (Nat × Nat)} (hx : LinesV K H (.ref x.1) x.2) :
    StA K P w (upd H d (DictNO P w d (entsC (cs ++ [x])))) d l (cs ++ [x]) ss := by
  refine ⟨upd_same, by rw [upd_ne (Ne.symm h.ne)]; exact h.el, fun c m => ?_, fun c m => (h.hs c m).dict h.ed But.at_⟩
  rcases List.mem_append.mp m with m | m
  · exact (h.hc c m).dict h.ed But.at_
  · rw [List.mem_singleton.mp m]
    exact hx.dict h.ed But.at_
theorem StA.push {K : PySem.W.Frag} {P : Program} {w : World} {H : Hp} {d l : Addr} {cs ss : Cs} (h : StA K P w H d l cs ss) {x : Addr × List (Nat × Nat)} (hx : LinesV K H (.ref x.1) x.2) :
    StA K P w (upd H l (.lst (refsC (ss ++ [x])))) d l cs (ss ++ [x]) := by
  refine ⟨by rw [upd_ne h.ne]; exact h.ed, upd_same, fun c m => (h.hc c m).but h.el But.at_, fun c m => ?_⟩
  rcases List.mem_append.mp m with m | m
  · exact (h.hs c m).but h.el But.at_
  · rw [List.mem_singleton.mp m]
    exact hx.but h.el But.at_
theorem StA.pop {K : PySem.W.Frag} {P : Program} {w : World} {H : Hp} {d l : Addr} {cs ss : Cs} {x : Addr × List (Nat × Nat)} (h : StA K P w H d l cs (ss ++ [x])) :
    StA K P w (upd H l (.lst (refsC ss))) d l cs ss ∧ LinesV K (upd H l (.lst (refsC ss))) (.ref x.1) x.2 :=
  ⟨⟨by rw [upd_ne h.ne]; exact h.ed, upd_same, fun c m => (h.hc c m).but h.el But.at_, fun c m => (h.hs c (List.mem_append_left _ m)).but h.el But.at_⟩, (h.hs x (List.mem_append_right _ (List.mem_singleton.mpr rfl))).but h.el But.at_⟩
def ClosedTo (n : Nat) (ks : List (List (Nat × Nat))) (fl : List (Nat × Nat)) (q : Nat) : Prop := ∀ m b, 2 * m + b < q → m < 2 ^ n → b < 2 → (wh (hsOf fl) (m, 0)).1 ≠ 0 → ∀ gs, lflat (fl ++ [(m, b)]) = some gs → canon gs ∈ ks
theorem ClosedTo.mono {n : Nat} {ks ks' : List (List (Nat × Nat))} {fl : List (Nat × Nat)} {q : Nat} (h : ∀ x ∈ ks, x ∈ ks') (c : ClosedTo n ks fl q) : ClosedTo n ks' fl q := fun m b h1 h2 h3 h4 gs h5 => h _ (c m b h1 h2 h3 h4 gs h5)
def flats (cs : Cs) : List (List (Nat × Nat)) := cs.map (·.2)
structure MA (n : Nat) (cs ss : Cs) (out : List (Nat × Nat) → Prop) : Prop where
  wf : ∀ fl ∈ flats cs, WF n fl
  nd : (flats cs).Nodup
  hd : ∃ r, flats cs = [] :: r
  sub : ∀ fl ∈ flats ss, fl ∈ flats cs
  cl : ∀ fl ∈ flats cs, fl ∈ flats ss ∨ out fl ∨ ClosedTo n (flats cs) fl (2 * 2 ^ n)
theorem nodup_le {α : Type} [DecidableEq α] : ∀ {l m : List α}, l.Nodup → (∀ x ∈ l, x ∈ m) → l.length ≤ m.length
  | [], _, _, _ => Nat.zero_le _
  | a :: l, m, nd, h => by
    obtain ⟨h1, h2⟩ := List.nodup_cons.mp nd
    have ha := h a List.mem_cons_self
    have := nodup_le (m := m.erase a) h2 fun x hx => (List.mem_erase_of_ne (fun z : x = a => h1 (by rw [← z]; exact hx))).mpr (h x (List.mem_cons_of_mem _ hx))
    rw [List.length_erase_of_mem ha] at this
    have := List.length_pos_of_mem ha
    rw [List.length_cons]
    omega
theorem MA.len {n : Nat} {cs ss : Cs} {out : List (Nat × Nat) → Prop} (n4 : n ≤ 4) (h : MA n cs ss out) : cs.length ≤ 307 := by
  have a := nodup_le h.nd (m := FL n n) fun fl hf => (FL_all (by omega) fl).mpr (h.wf fl hf)
  have b := FL_many n n4 n (Nat.le_refl _)
  unfold flats at a
  rw [List.length_map] at a
  omega
theorem MA.done {n : Nat} {cs : Cs} (n4 : n ≤ 4) (h : MA n cs [] fun _ => False) : ((flats cs).map flD).Perm ((FL n n).map flD) := by
  refine sortedD_of (by omega) h.nd fun fl => ⟨h.wf fl, all_of_halves (by omega) ?_ (fun fl hf m b gs h1 h2 h3 h4 => ?_) fl⟩
  · obtain ⟨r, e⟩ := h.hd
    rw [e]
    exact List.mem_cons_self
  · rcases h.cl fl hf with z | z | z
    · cases z
    · exact z.elim
    · exact z m b (by omega) h1 h2 h3 gs h4
theorem MA.start (n : Nat) (a b : Addr) : MA n [(a, [])] [(b, [])] fun _ => False := by
  refine ⟨fun fl h => ?_, List.nodup_cons.mpr ⟨List.not_mem_nil, List.nodup_nil⟩, ⟨[], rfl⟩, fun fl h => h, fun fl h => .inl h⟩
  rw [List.mem_singleton.mp h]
  exact wf_nil n
theorem MA.take {n : Nat} {cs ss : Cs} {x : Addr × List (Nat × Nat)} (h : MA n cs (ss ++ [x]) fun _ => False) : MA n cs ss (fun fl => fl = x.2) ∧ x.2 ∈ flats cs := by
  have e : flats (ss ++ [x]) = flats ss ++ [x.2] := by unfold flats; rw [List.map_append]; rfl
  refine ⟨⟨h.wf, h.nd, h.hd, fun fl hf => h.sub fl (by rw [e]; exact List.mem_append_left _ hf), fun fl hf => ?_⟩, h.sub _ (by rw [e]; exact List.mem_append_right _ (List.mem_singleton.mpr rfl))⟩
  rcases h.cl fl hf with z | z | z
  · rw [e] at z
    rcases List.mem_append.mp z with z | z
    · exact .inl z
    · exact .inr (.inl (List.mem_singleton.mp z))
  · exact z.elim
  · exact .inr (.inr z)
theorem MA.put {n : Nat} {cs ss : Cs} {out : List (Nat × Nat) → Prop} {x : Addr × List (Nat × Nat)} (h : MA n cs ss out) (W : WF n x.2) (new : x.2 ∉ flats cs) : MA n (cs ++ [x]) (ss ++ [x]) out := by
  have e : ∀ ss : Cs, flats (ss ++ [x]) = flats ss ++ [x.2] := fun ss => by unfold flats; rw [List.map_append]; rfl
  obtain ⟨r, er⟩ := h.hd
  refine ⟨fun fl hf => ?_, ?_, ⟨r ++ [x.2], by rw [e, er]; rfl⟩, fun fl hf => ?_, fun fl hf => ?_⟩
  · rw [e] at hf
    rcases List.mem_append.mp hf with z | z
    · exact h.wf fl z
    · rw [List.mem_singleton.mp z]
      exact W
  · rw [e]
    refine List.nodup_append.mpr ⟨h.nd, List.nodup_cons.mpr ⟨List.not_mem_nil, List.nodup_nil⟩, fun a ha b hb z => ?_⟩
    rw [List.mem_singleton.mp hb] at z
    exact new (z ▸ ha)
  · rw [e] at hf ⊢
    rcases List.mem_append.mp hf with z | z
    · exact List.mem_append_left _ (h.sub fl z)
    · exact List.mem_append_right _ z
  · rw [e] at hf
    rw [e, e]
    rcases List.mem_append.mp hf with z | z
    · rcases h.cl fl z with y | y | y
      · exact .inl (List.mem_append_left _ y)
      · exact .inr (.inl y)
      · exact .inr (.inr (y.mono fun _ => List.mem_append_left _))
    · exact .inl (List.mem_append_right _ z)
theorem MA.drop {n : Nat} {cs ss : Cs} {fl : List (Nat × Nat)} (h : MA n cs ss fun g => g = fl) (c : ClosedTo n (flats cs) fl (2 * 2 ^ n)) : MA n cs ss fun _ => False :=
  ⟨h.wf, h.nd, h.hd, h.sub, fun g hg => by
    rcases h.cl g hg with z | z | z
    · exact .inl z
    · rw [z]
      exact .inr (.inr c)
    · exact .inr (.inr z)⟩
theorem wh_none (hs : List (Nat × Nat × Nat)) : (wh hs (0, 0)).1 = 0 := by
  unfold wh
  have go : ∀ (hs : List (Nat × Nat × Nat)) (r : Nat × Nat), hs.foldl (wh1 (0, 0).1) r = r := by
    intro hs
    induction hs with
    | nil => intro r; rfl
    | cons e hs ih =>
      intro r
      rw [List.foldl_cons, ih]
      unfold wh1
      rw [if_neg (by rw [Nat.zero_testBit]; exact Bool.false_ne_true)]
  rw [go]
theorem ClosedTo.zero (n : Nat) (ks : List (List (Nat × Nat))) (fl : List (Nat × Nat)) : ClosedTo n ks fl 2 := fun m b h1 _ _ h4 => by
  have : m = 0 := by omega
  subst this
  exact absurd (wh_none _) h4
theorem ClosedTo.skip {n m : Nat} {ks : List (List (Nat × Nat))} {fl : List (Nat × Nat)} (h : ClosedTo n ks fl (2 * m)) (c : (wh (hsOf fl) (m, 0)).1 = 0) : ClosedTo n ks fl (2 * (m + 1)) := fun m' b h1 h2 h3 h4 gs h5 => by
  by_cases e : m' = m
  · subst e
    exact absurd c h4
  · exact h m' b (by omega) h2 h3 h4 gs h5
theorem ClosedTo.next {n m b : Nat} {ks : List (List (Nat × Nat))} {fl : List (Nat × Nat)} (hb : b < 2) (h : ClosedTo n ks fl (2 * m + b)) {gs : List (Nat × Nat × Nat)} (e : lflat (fl ++ [(m, b)]) = some gs) (hg : canon gs ∈ ks) : ClosedTo n ks fl (2 * m + b + 1) := fun m' b' h1 h2 h3 h4 gs' h5 => by
  by_cases c : 2 * m' + b' < 2 * m + b
  · exact h m' b' c h2 h3 h4 gs' h5
  · have e1 : m' = m := by omega
    have e2 : b' = b := by omega
    subst e1 e2
    rw [e] at h5
    rw [← Option.some.inj h5]
    exact hg
theorem ents_snoc {cs : Cs} {x : Addr × List (Nat × Nat)} (h : flatK x.2 ∉ (entsC cs).map (·.1)) : putN (entsC cs) (flatK x.2) x.1 (.bl true) = entsC (cs ++ [x]) := by
  unfold putN
  rw [if_neg h]
  unfold entsC
  rw [List.map_append]
  rfl
theorem ents_has {n : Nat} (n62 : n ≤ 62) {cs : Cs} {fl : List (Nat × Nat)} (h : ∀ g ∈ flats cs, WF n g) (W : WF n fl) : flatK fl ∈ (entsC cs).map (·.1) ↔ fl ∈ flats cs := by
  unfold entsC flats
  rw [List.map_map, List.mem_map, List.mem_map]
  constructor
  · rintro ⟨c, hc, e⟩
    refine ⟨c, hc, flatK_inj n62 (fun l hl => ((h c.2 (List.mem_map.mpr ⟨c, hc, rfl⟩)).ok l hl).1) (fun l hl => (W.ok l hl).1) e⟩
  · rintro ⟨c, hc, rfl⟩
    exact ⟨c, hc, rfl⟩
theorem flats_mono {cs : Cs} {x : Addr × List (Nat × Nat)} : ∀ g ∈ flats cs, g ∈ flats (cs ++ [x]) := fun g hg => by
  unfold flats at *
  rw [List.map_append]
  exact List.mem_append_left _ hg
end Es
set_option Elab.async false
set_option linter.all false
set_option maxRecDepth 100000
set_option maxHeartbeats 4000000
namespace Es
open PySem PySem.Spec PyProof.Rows L2
structure FnR (P : Program) (w : World) (K : PySem.W.Frag) (mg : Str → Option Value) (base : Heap)
    (k : Nat) (f : Addr) (fd : FuncData) (ps : List Str) (sp : Sp) : Prop where
  lenR : ∀ {vs H Q E}, sp vs H Q E → vs.length = ps.length
  runR : ∀ {B : Around} {out : List Env} {t : Shared} {G : Hp} {ar : Args} {xs : List Value} {ys : List V} {R : VK} {E : XK},
    Room k B → B.guards = some [] → Env0 P w K mg base B out t G → BindsTo t fd ar (ps.zip xs) → Vals ys xs → sp ys G R E →
    codeAny (model P w) B (.call (.ref f) ar) (CR (L2.CX P w) out P w G t R E) t
section
variable {P : Program} {w : World} {K : PySem.W.Frag} {mg : Str → Option Value} {base : Heap}
theorem FnR.up {j k : Nat} {f : Addr} {fd : FuncData} {ps : List Str} {sp : Sp} (F : FnR P w K mg base j f fd ps sp) (h : j ≤ k) :
    FnR P w K mg base k f fd ps sp :=
  ⟨F.lenR, fun hr hg he hb hv hs => F.runR (hr.mono h) hg he hb hv hs⟩
theorem FnR.plain {k : Nat} {f : Addr} {fd : FuncData} {ps : List Str} {sp sq : Sp} (F : FnR P w K mg base k f fd ps sp) (h : ∀ {vs H Q E}, sq vs H Q E → sp vs H Q E0) :
    FnG P w K mg base k f fd ps sq := by
  refine ⟨fun z => F.lenR (h z), fun hr hg he hb hv hs => codeAny_mono (F.runR hr hg he hb hv (h hs)) ?_⟩
  intro r t2 q
  cases r with
  | ok fl => cases fl <;> exact q
  | error e =>
    obtain ⟨_, _, _, _, _, _, _, _, _, _, _, _, z⟩ := q
    exact z.elim
theorem fnr_of {k : Nat} {f : Addr} {nm ql : Str} {pr : Arguments} {bd : List Stmt} {sc : Scope} {dV kV doc pm cdv ct oc : Value}
    {an od : Option Addr} {osl : Array (Option Value)} {N ps : List Str} {sp : Sp}
    (look : K.lookup f = some ⟨oc, od, .func (PySem.W.fnOf nm ql pr bd sc dV kV doc pm an cdv ct), osl⟩)
    (cod : PySem.W.codeIn K cdv ql = true) (S : FnScope N ps sc)
    (ln : ∀ {vs H Q E}, sp vs H Q E → vs.length = ps.length)
    (body : ∀ (B : Around) (out : List Env) (t : Shared) (G : Hp) (ys : List V) (R : VK) (E : XK),
      Room k (B.deeper (envOfC ql sc t.heap.objs.size f cdv)) → B.guards = some [] → sp ys G R E →
      ∃ r, PSs (cxOf (L2.CX P w) P w K mg base N ql sc f cdv B out t G E) bd r ∧ r { nx := fun _ G' => R .non G', rt := R } (start N ys) G) :
    FnR P w K mg base (k + 1) f (PySem.W.fnOf nm ql pr bd sc dV kV doc pm an cdv ct) ps sp := by
  refine ⟨ln, ?_⟩
  intro B out t G ar xs ys R E room gd env0 bind rel want
  have lens := ln want
  have keepB : ∀ b o, base.get? b = some o → t.heap.get? b = some o := fun b o e => (env0.bs b o e).1
  have inK : K.In t.heap := env0.mod.kin.keeps keepB
  have nolim : t.heap.NoLimit := env0.mod.nolimit.keeps keepB
  refine codeAny_call_function room.depth (inK _ _ look) rfl S.co S.gen rfl (PySem.W.codeRec_of inK cod) (bind _ _ _ _ ?_)
  refine wpAny_newFunctionEnv_cells S.kind (fun p hp => ?_) (fun ev hev t1 st => ?_)
  · obtain ⟨n, v⟩ := p
    cases S.par n (List.of_mem_zip hp).1 with
    | inl z => exact Or.inl z
    | inr z => exact Or.inr ⟨z, PySem.W.cellsFrom_some _ _ _ (Or.inl z)⟩
  · subst hev
    refine ⟨nolim.keeps st.toInCall.keep, codeAny_func ?_⟩
    obtain ⟨r, hr1, hr2⟩ := body B out t G ys R E (room.deeper _) gd want
    have J0 : Inv (cxOf (L2.CX P w) P w K mg base N ql sc f cdv B out t G E) [] (start N ys) G t1 := inv_start S room.hd env0 lens rel st
    refine wpAny_mono (hr1.run [] t1 (start N ys) G _ J0 hr2) ?_ (fun e t2 h2 => h2)
    intro fl t2 h2
    have done : ∀ {σ2 : L2.St} {G2 : Hp} {v : V} {u : Value}, Inv (cxOf (L2.CX P w) P w K mg base N ql sc f cdv B out t G E) [] σ2 G2 t2 → RelV v u → R v G2 → CE out P w G t R u t2 := by
      intro σ2 G2 v u J rv q
      exact ⟨v, G2, J.os, J.bare, J.base, J.hok, rv, q⟩
    cases fl with
    | next => obtain ⟨σ2, G2, J, q⟩ := h2; exact done (v := V.non) (u := Value.none) J rfl q
    | ret u => obtain ⟨v, σ2, G2, J, rv, q⟩ := h2; exact done J rv q
    | brk => obtain ⟨_, _, _, q⟩ := h2; exact q.elim
    | cont => obtain ⟨_, _, _, q⟩ := h2; exact q.elim
theorem okR {x qual : Str} {st : Stmt} {f : Addr} {fd : FuncData} {N ps : List Str} {k : Nat} {sp : Sp} (F : Fun K x qual st f fd) (S : FnScope N ps (defScope st))
    (ln : ∀ {vs H Q E}, sp vs H Q E → vs.length = ps.length)
    (body : ∀ (cdv : Value) (B : Around) (out : List Env) (t : Shared) (G : Hp) (ys : List V) (R : VK) (E : XK),
      Room k (B.deeper (envOfC qual (defScope st) t.heap.objs.size f cdv)) → (B.deeper (envOfC qual (defScope st) t.heap.objs.size f cdv)).guards = some [] →
      Takes (cxOf (L2.CX P w) P w K mg base N qual (defScope st) f cdv B out t G E) (fun cls d _ H => E cls d H) → sp ys G R E →
      ∃ r, PSs (cxOf (L2.CX P w) P w K mg base N qual (defScope st) f cdv B out t G E) (defBody st) r ∧ r { nx := fun _ G' => R .non G', rt := R } (start N ys) G) :
    FnR P w K mg base (k + 1) f fd ps sp := by
  obtain ⟨oc, od, kV, doc, pm, an, cdv, ct, osl, rfl, lk, hcd⟩ := F.ex
  refine fnr_of lk hcd S ln ?_
  intro B out t G ys R E hr hg want
  exact body cdv B out t G ys R E hr hg (takes_of rfl rfl rfl rfl) want
def CalleeR (P : Program) (w : World) (K : PySem.W.Frag) (mg : Str → Option Value) (base : Heap) (k : Nat) (x : Str) (ps : List Str) (sp : Sp) : Prop :=
  ∃ (f : Addr) (fd : FuncData), FnR P w K mg base k f fd ps sp ∧ mg x = some (.ref f) ∧ PySem.W.keepIn K (.ref f) = true ∧ Binds K fd ps []
theorem CalleeR.plain {k : Nat} {x : Str} {ps : List Str} {sp sq : Sp} (c : CalleeR P w K mg base k x ps sp) (h : ∀ {vs H Q E}, sq vs H Q E → sp vs H Q E0) : CalleeOf P w K mg base k x ps sq := by
  obtain ⟨f, fd, F, hm, hk, hb⟩ := c
  exact ⟨f, fd, F.plain h, hm, hk, hb⟩
end
section
variable {X : Cx} {k : Nat} {ps : List Str} {sp : Sp} {x : Str} {p pos : Pos} {e : Expr} {es : List Expr} {t : TA} {E : L2.St → XK}
theorem runR_call {f : Addr} {fd : FuncData} {pins : List (Addr × Obj)} {σ : L2.St} {H : Hp} {s : Shared} {Q : VK} {us : List Value} {vs : List V} (F : FnR X.prog X.w X.K X.mg X.base k f fd ps sp)
    (hr : Room k X.A) (hg : X.A.guards = some []) (hb : Binds X.K fd ps []) (hx : PassesAt (L2.CX X.prog X.w) X σ (E σ)) (I : Inv X pins σ H s) (r : Vals vs us) (h : sp vs H Q (E σ)) :
    wpAny (model X.prog X.w) X.A (call (.ref f) us) (EP X pins σ Q) X.xe s := by
  have l1 : (us ++ []).length = ps.length := by
    rw [List.append_nil, ← r.length]
    exact F.lenR h
  have b1 := hb s us I.kIn l1
  rw [List.append_nil] at b1
  refine wpAny_call (codeAny_mono (F.runR hr hg I.env0 b1 r h) ?_)
  intro z s' hz
  cases z with
  | error er => exact hx pins H s er s' I hz
  | ok fl =>
    cases fl with
    | ret u => exact I.after hz
    | next => exact False.elim hz
    | brk => exact False.elim hz
    | cont => exact False.elim hz
theorem pe_callR (c : CalleeR X.prog X.w X.K X.mg X.base k x ps sp) (hr : Room k X.A) (hg : X.A.guards = some []) (hgl : Gl X x) (hx : ∀ σ, PassesAt (L2.CX X.prog X.w) X σ (E σ)) (ha : PA X (e :: es) t) (hd : (x == ("__debug__" : Str)) = false := by decide)
    (h1 : starEach (e :: es) X.env = (false, eval e X.env) :: starEach es X.env := by rfl) (h2 : (backTo pos (starEach es X.env)).any (·.1) = false := by rfl) :
    PE X (.Call (.Name x p) (e :: es) [] pos) (tCallS sp E t) := by
  obtain ⟨f, fd, F, hm, hk, hb⟩ := c
  refine ⟨fun pins s σ H Q I h => ?_⟩
  refine wpAny_Call_Name_kw (ld_glob I hgl hm ?_ hd)
  refine PySem.W.callWith_K (h₀ := X.base) I.ok.mod.kin hk (thn (ha.run pos pins s σ H _ I h) ?_) h1 h2
  rintro us s1 ⟨vs, H1, I1, r, q⟩
  exact ⟨I1.kIn, runR_call F hr hg hb (hx σ) I1 r q⟩
end
structure ErrC (K : PySem.W.Frag) (mg : Str → Option Value) (x n : Str) (C fI : Addr) : Prop where
  oex : OexC K C
  gC : mg x = some (.ref C)
  iC : PySem.W.findIn K (.ref C) "__init__" = some (some (.ref fI))
  tI : PySem.W.typeIn K (.ref fI) = some (.type "function")
  xf : XfC K C
  no : PySem.W.findIn K (.ref C) n = some none
def sp_err (K : PySem.W.Frag) (n : Str) : Sp := fun vs H Q _ => ∃ (a C : Addr) (v : V), vs = [.ref a, v] ∧ OexC K C ∧ PySem.W.findIn K (.ref C) n = some none ∧ H a = some (exo a C none) ∧
  ∀ dx, H dx = none → dx ≠ a → Q .non (upd (upd H dx (exd dx [(n, v)])) a (exo a C (some dx)))
section
variable {P : Program} {w : World} {K : PySem.W.Frag} {mg : Str → Option Value} {base : Heap}
theorem ok_err {n qual : Str} {st : Stmt} {f : Addr} {fd : FuncData} {p1 p2 p3 p4 : Pos} (F : Fun K "__init__" qual st f fd) (S : FnScope ["self", n] ["self", n] (defScope st))
    (hb : defBody st = [.Assign [.Attribute (.Name "self" p1) n p2] (.Name n p3) p4])
    (h0 : Vis (defScope st) ("self" : Str)) (h1 : Vis (defScope st) n) (hd : (n == ("__debug__" : Str)) = false) (hc : (n == ("__classdict__" : Str)) = false) :
    FnOk P w K mg base CX0 1 f fd ["self", n] (sp_err K n) := by
  refine F.ok S (fun vs H Q E h => ?_) (fun cdv A outer s H vs Q E hr h => ?_)
  · obtain ⟨a, C, v, rfl, _⟩ := h
    rfl
  · rw [hb]
    refine ⟨_, pss_one (ps_ost (f := n) (pe_var (i := 0) rfl h0) (pe_var (i := 1) rfl h1 hd hc) (by rfl)), ?_⟩
    obtain ⟨a, C, v, rfl, T, no, ha, k⟩ := h
    exact ⟨v, rfl, .ref a, rfl, a, C, rfl, T, no, .inl ⟨ha, fun dx n1 n2 => k dx n1 n2⟩⟩
end
def tMkErr (C : Addr) (n : Str) (ta : TA) : L2.St → Hp → XK → Prop := fun σ H Q => ta σ H fun vs H1 => ∃ v, vs = [v] ∧ ∀ d, H1 d = none → Q (.ref C) (some d) (upd H1 d (.xd [(n, v)]))
section
variable {X : Cx} {x n : Str} {C fI : Addr} {e : Expr} {ta : TA} {p pos pos2 : Pos} {k : Nat} {fd : FuncData}
theorem PA.wide {es : List Expr} {ta : TA} (h : PA X es ta) : PA X es (fun σ H Q => ∃ Q0 : List V → Hp → Prop, ta σ H Q0 ∧ ∀ vs H1, Q0 vs H1 → Q vs H1) := by
  refine ⟨fun pos pins s σ H Q I ⟨Q0, h1, h2⟩ => wpAny_mono (h.run pos pins s σ H Q0 I h1) ?_ (fun _ _ z => z)⟩
  rintro us s' ⟨vs, H1, J, r, q⟩
  exact ⟨vs, H1, J, r, h2 _ _ q⟩
theorem pmk_err (T : ErrC X.K X.mg x n C fI) (F1 : FnOk X.prog X.w X.K X.mg X.base CX0 1 fI fd ["self", n] (sp_err X.K n)) (hb : Binds X.K fd ["self", n] []) (hr : Room 2 X.A) (hg : Gl X x) (ha : PA X [e] ta)
    (hd : (x == ("__debug__" : Str)) = false := by decide) (he : starEach [e] X.env = (false, eval e X.env) :: starEach [] X.env := by rfl) (hpl : (backTo pos (starEach [] X.env)).any (·.1) = false := by rfl) :
    PMk X (.Call (.Name x p) [e] [] pos) (tMkErr C n ta) := by
  intro pins s σ H Q I h
  refine pmk_oex (x := x) (p := p) (pos := pos) (es := []) T.oex T.iC T.tI F1 hr hb (.nil : Vals [] []) (pass0 (X := X)) hg T.gC (PA.wide ha) hd he hpl pins s σ H Q I ⟨_, h, ?_⟩
  rintro vs H1 ⟨v, rfl, q⟩
  refine ⟨(by show 1 ≤ 1000; decide), fun a na => ?_⟩
  refine ⟨a, C, v, rfl, T.oex, T.no, upd_same, fun dx n1 n2 => ⟨rfl, dx, [(n, v)], upd_same, ?_, ?_, ?_⟩⟩
  · rw [upd_ne n2, upd_same]
  · rwa [upd_ne n2] at n1
  · have n3 : H1 dx = none := by rwa [upd_ne n2] at n1
    have e : upd (del (upd (upd (upd H1 a (exo a C none)) dx (exd dx [(n, v)])) a (exo a C (some dx))) a) dx (.xd [(n, v)]) = upd H1 dx (.xd [(n, v)]) := by
      funext z
      by_cases z1 : z = dx
      · rw [z1, upd_same, upd_same]
      · rw [upd_ne z1, upd_ne z1]
        by_cases z2 : z = a
        · rw [z2, del_same, na]
        · rw [del_ne z2, upd_ne z2, upd_ne z1, upd_ne z2]
    rw [e]
    exact q dx n3
def tRaiseErr (C : Addr) (n : Str) (W : WX) (ta : TA) : TS := fun _ σ H => tMkErr C n ta σ H fun cls d H' => W cls d σ H'
theorem ps_raiseErr {W : WX} (hc : X.calm = true) (T : ErrC X.K X.mg x n C fI) (F1 : FnOk X.prog X.w X.K X.mg X.base CX0 1 fI fd ["self", n] (sp_err X.K n)) (hb : Binds X.K fd ["self", n] []) (hr : Room 2 X.A) (tk : Takes X W) (hg : Gl X x) (ha : PA X [e] ta)
    (hd : (x == ("__debug__" : Str)) = false := by decide) (he : starEach [e] X.env = (false, eval e X.env) :: starEach [] X.env := by rfl) (hpl : (backTo pos (starEach [] X.env)).any (·.1) = false := by rfl) :
    PS X (.Raise (some (.Call (.Name x p) [e] [] pos)) none pos2) (tRaiseErr C n W ta) := ps_raise hc tk (pmk_err T F1 hb hr hg ha hd he hpl)
end
def unE (D : Ends) (i : Nat) : Ends := { nx := fun σ H => D.nx (σ.set i none) H, rt := D.rt, bk := fun σ H => D.bk (σ.set i none) H, ct := fun σ H => D.ct (σ.set i none) H }
abbrev Clause := Value × Option Nat × (Addr → Value → Option Addr → TS)
def wCl (K : PySem.W.Frag) (Wout : WX) (D : Ends) : List Clause → WX
  | [] => Wout
  | (c, none, ts) :: r => fun cls d σ H => ∃ b, PySem.W.exmOne K cls c = some b ∧ (b = true → ∀ a, H a = none → ts a cls d D σ H) ∧ (b = false → wCl K Wout D r cls d σ H)
  | (c, some i, ts) :: r => fun cls d σ H => ∃ b, PySem.W.exmOne K cls c = some b ∧ (b = true → ∀ a, H a = none → ts a cls d (unE D i) (σ.set i (some (.ref a))) H) ∧ (b = false → wCl K Wout D r cls d σ H)
inductive Clauses (X : Cx) : List ExceptHandler → List Clause → Prop
  | nil : Clauses X [] []
  | bare {x : Str} {c : Value} {ts : Addr → Value → Option Addr → TS} {b1 : Stmt} {bs : List Stmt} {p1 p2 : Pos} {hs : List ExceptHandler} {l : List Clause} (names : Names X x c)
      (suite : ∀ {a : Addr} {oe : Obj} {cls : Value} {d : Option Addr} {pn : List (Addr × Obj)}, Zc cls d oe → (∃ vs, oe.data = .fields vs) → PSs (X.suite a ((a, oe) :: pn)) (b1 :: bs) (ts a cls d))
      (more : Clauses X hs l) : Clauses X (.ExceptHandler (some (.Name x p1)) none (b1 :: bs) p2 :: hs) ((c, none, ts) :: l)
  | named {x n : Str} {i : Nat} {c : Value} {ts : Addr → Value → Option Addr → TS} {b1 : Stmt} {bs : List Stmt} {p1 p2 : Pos} {hs : List ExceptHandler} {l : List Clause} (names : Names X x c)
      (at_ : X.N[i]? = some n) (loc : X.env.kindOf n = some .local)
      (suite : ∀ {a : Addr} {oe : Obj} {cls : Value} {d : Option Addr} {pn : List (Addr × Obj)}, Zc cls d oe → (∃ vs, oe.data = .fields vs) → PSs (X.suite a ((a, oe) :: pn)) (b1 :: bs) (ts a cls d))
      (more : Clauses X hs l) : Clauses X (.ExceptHandler (some (.Name x p1)) (some n) (b1 :: bs) p2 :: hs) ((c, some i, ts) :: l)
section
variable {X : Cx} {body : List Stmt} {h1 : ExceptHandler} {hs : List ExceptHandler} {l : List Clause} {pos : Pos} {tb : WX → TS} {Wout : WX}
theorem not_frame {B h : Heap} {env : Env} {outer : List Env} {o : Obj} {vs : Array Value} {a : Addr} (ff : h.FunFrames B (env :: outer)) (e : h.get? a = some o) (dd : o.data = .fields vs) : a ∉ frs (env :: outer) := by
  intro z
  obtain ⟨_, q, e2, nf⟩ := ff.mem z
  have e3 := e.symm.trans e2
  cases e3
  exact nf vs dd
theorem sp_outTry {pn pins : List (Addr × Obj)} {xe : Value → Shared → Prop} {D : Ends} {f : Flow} {s : Shared} (ok : X.Ok) (J : ∀ {σ H}, Inv (X.tr pn xe) [] σ H s → Inv X pins σ H s) (h : SP (X.tr pn xe) [] D f s) : SP X pins D f s := by
  cases f with
  | next => obtain ⟨σ2, H2, I2, q⟩ := h; exact ⟨σ2, H2, J I2, q⟩
  | brk => obtain ⟨σ2, H2, I2, q⟩ := h; exact ⟨σ2, H2, J I2, q⟩
  | cont => obtain ⟨σ2, H2, I2, q⟩ := h; exact ⟨σ2, H2, J I2, q⟩
  | ret u => obtain ⟨v, σ2, H2, I2, r, q⟩ := h; exact ⟨v, σ2, H2, J I2, r, q⟩
def catchE (X : Cx) (pins : List (Addr × Obj)) (D : Ends) (ks : List ExceptHandler) : Value → Shared → Prop := fun e t =>
  wpAny (model X.prog X.w) X.A (noteFrame e X.env)
    (fun _ t2 => wpAny (model X.prog X.w) X.A (setFlight e none)
      (fun _ t3 => wpAny (model X.prog X.w) X.A (handleBy e X.env ks) (SP X pins D) X.xe t3) X.xe t2) X.xe t
theorem ps_tryAll (stk : X.stack = X.env :: X.outer) (frm : X.env.frame = some X.env.locals) (nd : X.N.Nodup) (tk : Takes X Wout)
    (inner : ∀ {W : WX} {pn : List (Addr × Obj)} {xe : Value → Shared → Prop}, Takes (X.tr pn xe) W → PassesOwn (model X.prog X.w) X.A X.env xe → PSs (X.tr pn xe) body (tb W))
    (cl : Clauses X (h1 :: hs) l) : PS X (.Try body (h1 :: hs) [] [] pos) (fun D σ H => tb (wCl X.K Wout D l) D σ H) := by
  constructor
  intro pins s σ H D I want
  have ok := I.ok
  have frames : X.A.frames = some (X.env :: X.outer) := ok.frames.trans (by rw [stk])
  refine wpAny_Try_except (wpAny_mono ((inner (W := wCl X.K Wout D l) (pn := X.pn ++ pins) (xe := catchE X pins D (h1 :: hs)) ?takes PassesOwn.looking).run [] s σ H D (I.toTry _) want) ?fin fun _ _ z => z)
  case fin =>
    intro f s1 h
    have h2 := sp_outTry ok (fun J => J.ofTry ok) h
    cases f with
    | next => exact wpAny_execs_nil h2
    | brk => exact h2
    | cont => exact h2
    | ret u => exact h2
  case takes =>
    rintro u s2 ⟨a, B, sI, pins2, σ2, H2, cls, d, rfl, J0, nb, up, sky, na, os, ag, wish⟩
    have J : Inv X pins σ2 H2 sI := J0.ofTry ok
    have sky2 : Sky B (X.env :: X.outer) a (Zc cls d) X.env.locals s2.heap := by rw [← stk]; exact sky
    show wpAny (model X.prog X.w) X.A (noteFrame (.ref a) X.env) _ X.xe s2
    refine Sky.land Zc.steady frames frm sky2 fun g fl ug => ?_
    have JL : Inv X pins σ2 H2 { s2 with heap := g } := J.landed nb fl.1 (up.trans ug) os ag
    obtain ⟨o3, v3, e3, z3, d3⟩ := fl.there
    have nfr := not_frame fl.2.2.1 e3 d3
    have ne_ : a ≠ X.env.locals := by
      intro z
      refine nfr (List.mem_filterMap.mpr ⟨X.env, List.mem_cons_self, ?_⟩)
      rw [frm, z]
    have nfs : a ∉ X.fs := by
      intro z
      obtain ⟨q, q1, q2⟩ := List.mem_filterMap.mp z
      exact nfr (List.mem_filterMap.mpr ⟨q, List.mem_cons_of_mem _ q1, q2⟩)
    have JS := JL.suite e3 d3 na ne_ nfs
    have looks : PySem.W.Looks (model X.prog X.w) g (typeOf (.ref a)) cls := fun A Q E s kp q => wpAny_typeOf_ref (kp _ _ e3) (by rw [z3.1]; exact q)
    have named : ∀ {x : Str} {c : Value} {np : Pos}, Names X x c → ∀ {Q E : Value → Shared → Prop}, Q c { s2 with heap := g } → wpAny (model X.prog X.w) (X.A.mark (some (.ref a))) (eval (.Name x np) X.env) Q E { s2 with heap := g } := by
      rintro x c np ⟨hg, hdb, h | ⟨h1, h2, h3⟩⟩ Q E q
      · exact ld_glob (X := X.suite a ((a, o3) :: (X.pn ++ pins))) JS hg h q hdb
      · exact ld_blt (X := X.suite a ((a, o3) :: (X.pn ++ pins))) JS hg h1 h2 q h3 hdb
    have run : ∀ {ks : List ExceptHandler} {m : List Clause}, Clauses X ks m → wCl X.K Wout D m cls d σ2 H2 → wpAny (model X.prog X.w) X.A (handleBy (.ref a) X.env ks) (SP X pins D) X.xe { s2 with heap := g } := by
      intro ks m hk
      induction hk with
      | nil =>
        intro wish
        refine wpAny_handleBy_nil ?_
        unfold PySem.passOn
        obtain ⟨_, _, _, o4, v4, T, _, _, e4, _, d4, at1, _⟩ := id fl
        refine wpAny_bind (wpAny_field e4 d4 at1 ?_)
        have nn : ¬ ((Value.ref T == Value.none) = true) := by simp
        rw [if_neg nn]
        have last : wpAny (model X.prog X.w) X.A (setFlight (.ref a) X.env.frame) (fun _ s4 => wpAny (model X.prog X.w) X.A (throw (.ref a) : Sem Flow) (SP X pins D) X.xe s4) X.xe { s2 with heap := g } := by
          rw [frm]
          refine HandSPX.setFlight_upZ fl fun g2 hh ug2 => wpAny_throw (tk _ _ ?_)
          refine ⟨a, B, sI, pins, σ2, H2, cls, d, rfl, J, nb, (up.trans ug).trans ug2, .inr (.inr ?_), na, os, ag, wish⟩
          rw [stk]
          exact hh
        first
          | exact wpAny_bind (wpAny_pure (wpAny_bind last))
          | exact wpAny_bind last
      | @bare x c ts b1 bs p1 p2 hs2 l2 names suite more ih =>
        rintro ⟨b, hb, yes, no⟩
        have LM := PySem.W.exm_one (M := model X.prog X.w) JL.kIn looks hb
        refine wpAny_handleBy_cons (codeAny_handlers_test (named names (LM.here ?_))) (fun z => by cases z)
        cases b with
        | false => exact ih (no rfl)
        | true =>
          refine codeAny_handlers_suite (HandSPX.lands_againZ fl fun g2 fl2 ug2 => ?_)
          have J4 : Inv X pins σ2 H2 { s2 with heap := g2 } := J.landed nb fl2.1 ((up.trans ug).trans ug2) os ag
          obtain ⟨o4, v4, e4, z4, d4⟩ := fl2.there
          refine wpAny_mono ((suite (pn := X.pn ++ pins) z4 ⟨_, d4⟩).run [] _ _ H2 D (J4.suite e4 d4 na ne_ nfs) (yes rfl a na)) ?_ (fun _ _ z => z.elim)
          intro f s6 h6
          cases f with
          | next => obtain ⟨σ6, H6, I6, q⟩ := h6; exact ⟨σ6, H6, I6.unsuite ok, q⟩
          | brk => obtain ⟨σ6, H6, I6, q⟩ := h6; exact ⟨σ6, H6, I6.unsuite ok, q⟩
          | cont => obtain ⟨σ6, H6, I6, q⟩ := h6; exact ⟨σ6, H6, I6.unsuite ok, q⟩
          | ret u => obtain ⟨v, σ6, H6, I6, r, q⟩ := h6; exact ⟨v, σ6, H6, I6.unsuite ok, r, q⟩
      | @named x n i c ts b1 bs p1 p2 hs2 l2 names at_ loc suite more ih =>
        rintro ⟨b, hb, yes, no⟩
        have LM := PySem.W.exm_one (M := model X.prog X.w) JL.kIn looks hb
        refine wpAny_handleBy_cons (codeAny_handlers_test (named names (LM.here ?_))) (fun z => by cases z)
        cases b with
        | false => exact ih (no rfl)
        | true =>
          refine codeAny_handlers_suite_as (HandSPX.lands_againZ fl fun g2 fl2 ug2 => ?_)
          have J4 : Inv X pins σ2 H2 { s2 with heap := g2 } := J.landed nb fl2.1 ((up.trans ug).trans ug2) os ag
          obtain ⟨o4, v4, e4, z4, d4⟩ := fl2.there
          refine store_ok (X := X.suite a ((a, o4) :: (X.pn ++ pins))) (v := .ref a) (J4.suite e4 d4 na ne_ nfs) nd at_ (.inl loc) rfl (fun s5 J5 => ?_) (.inr loc)
          refine wpAny_mono ((suite (pn := X.pn ++ pins) z4 ⟨_, d4⟩).run [] s5 _ H2 (unE D i) J5 (yes rfl a na)) ?_ (fun _ _ z => z.elim)
          intro f s6 h6
          have gone : ∀ {σ6 : L2.St} {H6 : Hp} {Q : Shared → Prop}, Inv (X.suite a ((a, o4) :: (X.pn ++ pins))) [] σ6 H6 s6 → (∀ s7, Inv X pins (σ6.set i none) H6 s7 → Q s7) →
              wpAny (model X.prog X.w) X.A (do bindName X.env n .none; unbindBehindTheSuite X.env n p2) (fun _ s7 => Q s7) X.xe s6 := fun I6 q => gone_ok (I6.unsuite ok) nd at_ loc q
          cases f with
          | next => obtain ⟨σ6, H6, I6, q⟩ := h6; exact gone I6 fun s7 J7 => ⟨_, H6, J7, q⟩
          | brk => obtain ⟨σ6, H6, I6, q⟩ := h6; exact gone I6 fun s7 J7 => ⟨_, H6, J7, q⟩
          | cont => obtain ⟨σ6, H6, I6, q⟩ := h6; exact gone I6 fun s7 J7 => ⟨_, H6, J7, q⟩
          | ret u => obtain ⟨v, σ6, H6, I6, r, q⟩ := h6; exact gone I6 fun s7 J7 => ⟨v, _, H6, J7, r, q⟩
    exact run cl wish
end
end Es
set_option Elab.async false
set_option linter.all false
set_option maxRecDepth 100000
set_option maxHeartbeats 4000000
namespace Es
open PySem PySem.Spec PyProof.Rows L2 LamX
abbrev askCx (X : Cx) (Ng : List Str) (x : Str) (sg : Scope) (g : Addr) (cdg : Value) (s : Shared) (H : Hp) : Cx := cxOf C8.CX0 X.prog X.w X.K X.mg X.base Ng x sg g cdg X.A X.stack s H C8.E0
abbrev lamQ (X : Cx) : Str := X.env.qual ++ "<lambda>"
theorem cx_mono {P : Program} {w : World} {outer : List Env} {H : Hp} {s s2 : Shared} {E F : XK} {u : Value} (h : ∀ {cls d G}, E cls d G → F cls d G) (c : L2.CX P w outer H s E u s2) : L2.CX P w outer H s F u s2 := by
  obtain ⟨a, B, G, cls, d, h1, h2, h3, h4, h5, h6, h7, e⟩ := c
  exact ⟨a, B, G, cls, d, h1, h2, h3, h4, h5, h6, h7, h e⟩
theorem PE.wide {X : Cx} {e : Expr} {t : TE} (h : PE X e t) : PE X e (fun σ H Q => ∃ Q0 : VK, t σ H Q0 ∧ ∀ v H1, Q0 v H1 → Q v H1) := by
  refine ⟨fun pins s σ H Q I ⟨Q0, h1, h2⟩ => wpAny_mono (h.run pins s σ H Q0 I h1) ?_ (fun _ _ z => z)⟩
  rintro u s' ⟨v, H1, J, r, q⟩
  exact ⟨v, H1, J, r, h2 _ _ q⟩
section
variable {X : Cx} {pins : List (Addr × Obj)} {σ : L2.St} {H : Hp} {s : Shared}
theorem pe_ask {Ng : List Str} {x a : Str} {sg : Scope} {g f c : Addr} {cdg pm ctv : Value} {params : Arguments} {body : Expr} {scope : Scope} {k i : Nat} {pn : List (Addr × Obj)} {xe : Value → Shared → Prop} {W : WX} {tb : XK → TE} {p1 p2 : Pos}
    (I : Inv X pins σ H s) (L : LamS X.env.scope scope)
    (here : s.heap.get? f = some (PySem.W.kla_obj "<lambda>" (lamQ X) params body scope (cloFrom X.env.cells scope.names []) pm c ctv)) (free : H f = none) (noStk : f ∉ frs X.stack)
    (bind : bindArgs (PySem.W.kla_fn "<lambda>" (lamQ X) params body scope (cloFrom X.env.cells scope.names []) pm (.ref c) ctv) ⟨[], []⟩ = pure [])
    (tk : Takes ((askCx X Ng x sg g cdg s H).tr pn xe) W) (room : Room (k + 1) (X.A.deeper (envOfC x sg s.heap.objs.size g cdg))) (gd : X.A.guards = some [])
    (inside : ∀ (A : Around) (outer : List Env) (s : Shared) (H : Hp) (E : XK), Room k (A.deeper (lamEnv X scope s.heap.objs.size f c)) → (A.deeper (lamEnv X scope s.heap.objs.size f c)).guards = some [] → PE (lamCx X A outer s H E scope f c) body (tb E))
    (hN : Ng[i]? = some a) (hv : Vis sg a) (hd : (a == ("__debug__" : Str)) = false := by decide) (hc : (a == ("__classdict__" : Str)) = false := by decide) :
    PE ((askCx X Ng x sg g cdg s H).tr pn xe) (.Call (.Name a p1) [] [] p2) (fun τ G Q => τ[i]? = some (some (.ref f)) ∧ G c = some (CodeO c (lamQ X)) ∧ ∃ E : XK, (∀ {cls d G2}, E cls d G2 → W cls d τ G2) ∧ tb E σ G Q) := by
  constructor
  rintro pz sz τ G Q J ⟨hs, hco, E, sub, want⟩
  have var := (pe_var (X := (askCx X Ng x sg g cdg s H).tr pn xe) (pos := p1) (i := i) hN hv hd hc).run pz sz τ G (fun v G1 => v = .ref f ∧ G1 = G) J ⟨.ref f, hs, rfl, rfl⟩
  refine wpAny_Call_Name_kw (thn var ?_)
  rintro u s1 ⟨v, G1, J1, rel, rfl, rfl⟩
  obtain rfl : u = Value.ref f := rel
  have still := J1.base.keep f _ here free noStk (fun z => nomatch (show f ∈ ([] : List Addr) from z))
  refine PySem.W.callWith_F0 ⟨_, _, _, _, still⟩ ?_
  obtain ⟨⟨oc, vs, t, g1, g2, g3⟩, _⟩ := J1.hok c _ hco
  have run : codeAny (model X.prog X.w) (X.A.deeper (envOfC x sg s.heap.objs.size g cdg)) (.call (.ref f) ⟨[], []⟩)
      (CR (L2.CX X.prog X.w) (envOfC x sg s.heap.objs.size g cdg :: X.stack) X.prog X.w G1 s1 Q E) s1 := by
    refine PySem.W.kla_callFunE room.depth still rfl L.co L.gen rfl ⟨c, oc, vs, t, rfl, g1, g2, g3⟩ ?_
    rw [bind]
    refine wpAny_pure (wpAny_newFunctionEnv (fun y hy => (L.own y hy).2) (fun y hy => by cases hy) (fun h2 ns sb => ⟨J1.nolimit.fresh _ sb, ?_⟩) L.kind)
    have kp : ∀ b o, s1.heap.get? b = some o → h2.get? b = some o := fun b o e => by
      refine sb.extBut b o (Nat.ne_of_lt (Heap.lt_size e)) ?_
      exact Heap.get?_push_of_some _ e
    have M := lam_start2 (E := E) (f := f) (c' := c) (tk := s1.toks + ([] : List (Str × Value)).length) I L J1.env0 room.hd J1.base ns kp
    have r2 := room.deeper (lamEnv X scope s1.heap.objs.size f c)
    refine PySem.W.kla_codeExpr (wpAny_mono ((inside _ _ s1 G1 E r2 gd).run [] _ _ G1 Q M want) ?_ (fun _ _ z => z))
    rintro v2 s2 ⟨w2, G2, M2, rel2, q⟩
    exact ⟨w2, G2, M2.os, M2.bare, M2.base, M2.hok, rel2, q⟩
  have pass := passAt (X := (askCx X Ng x sg g cdg s H).tr pn xe) tk τ
  refine wpAny_call (codeAny_mono run ?_)
  intro r s2 q
  cases r with
  | error er => exact pass pz G1 s1 er s2 J1 (cx_mono (F := WE W τ) sub q)
  | ok fl =>
    cases fl with
    | ret u => exact J1.after q
    | next => exact q.elim
    | brk => exact q.elim
    | cont => exact q.elim
end
def Gives (X : Cx) (Ng : List Str) (x : Str) (sg : Scope) (g : Addr) (cdg : Value) (bg : List Stmt) (a : Str) (q : Str) (TT : (XK → Hp → VK → Prop) → Hp → VK → Prop) : Prop :=
  ∀ (f c : Addr) (s : Shared) (H : Hp) (Q : VK) (tl : XK → Hp → VK → Prop),
    (∀ {W : WX} {pn : List (Addr × Obj)} {xe : Value → Shared → Prop} {p1 p2 : Pos}, Takes ((askCx X Ng x sg g cdg s H).tr pn xe) W →
      PE ((askCx X Ng x sg g cdg s H).tr pn xe) (.Call (.Name a p1) [] [] p2) (fun τ G Q => τ[0]? = some (some (.ref f)) ∧ G c = some (CodeO c q) ∧ ∃ E : XK, (∀ {cls d G2}, E cls d G2 → W cls d τ G2) ∧ tl E G Q)) →
    H c = some (CodeO c q) → TT tl H Q →
    ∃ r, PSs (askCx X Ng x sg g cdg s H).nox bg r ∧ r { nx := fun _ H2 => Q .non H2, rt := Q } (L2.start Ng [.ref f]) H
section
variable {X : Cx}
theorem pe_lamG {T : List (Addr × Str)} {TT : (XK → Hp → VK → Prop) → Hp → VK → Prop} {x a : Str} {g c P : Addr} {k : Nat} {pg : Arguments} {bg : List Stmt} {sg : Scope} {dV kV doc pm cdv ct oc : Value} {an od : Option Addr} {osl : Array (Option Value)} {Ng : List Str}
    {params : Arguments} {body : Expr} {scope : Scope} {t : XK → TE} {p lpos pos : Pos} (hg : Gl X x) (hm : X.mg x = some (.ref g)) (hk : PySem.W.keepIn X.K (.ref g) = true)
    (lk : X.K.lookup g = some ⟨oc, od, .func (PySem.W.fnOf x x pg bg sg dV kV doc pm an cdv ct), osl⟩) (cod : PySem.W.codeIn X.K cdv x = true) (hb : L2.Binds X.K (PySem.W.fnOf x x pg bg sg dV kV doc pm an cdv ct) [a] []) (S : FnScope Ng [a] sg)
    (gives : Gives X Ng x sg g cdv bg a (lamQ X) TT) (hN : Ng[0]? = some a) (hv : Vis sg a)
    (TB : TabB X.base X.mg c P) (code : X.env.code = .ref c) (mem : (P, lamQ X) ∈ T) (one : ∀ p ∈ T, p.1 = P → p.2 = lamQ X) (room : Room (k + 2) X.A) (gd : X.A.guards = some []) (L : LamS X.env.scope scope) (nodef : defaultsOf params X.env = ([], []))
    (bind : ∀ (q : Str) (cl : List (Str × Addr)) (pm cv ctv : Value), bindArgs (PySem.W.kla_fn "<lambda>" q params body scope cl pm cv ctv) ⟨[], []⟩ = pure [])
    (inside : ∀ (A : Around) (outer : List Env) (s : Shared) (H : Hp) (E : XK) (f c' : Addr), Room k (A.deeper (lamEnv X scope s.heap.objs.size f c')) → (A.deeper (lamEnv X scope s.heap.objs.size f c')).guards = some [] → PE (lamCx X A outer s H E scope f c') body (t E))
    (d1 : (x == ("__debug__" : Str)) = false := by decide) (d2 : (a == ("__debug__" : Str)) = false := by decide) (d3 : (a == ("__classdict__" : Str)) = false := by decide) :
    PE X (.Call (.Name x p) [.Lambda params body scope lpos] [] pos) (tLam T TT t) := by
  constructor
  rintro pins s σ H Q I ⟨tabs, want⟩
  refine wpAny_Call_Name_kw (ld_glob I hg hm (PySem.W.callWith_K (h₀ := X.base) I.ok.mod.kin hk ?_ (by rfl) (by rfl)) d1)
  show wpAny _ _ (spliced ((false, eval (.Lambda params body scope lpos) X.env) :: backTo pos (starEach [] X.env))) _ _ s
  refine Calls.spliced_cons (lam_make2 I TB code mem one tabs nodef (L.has I.ok) ?_)
  intro f c2 pm2 ctv2 H1 s1 I1 ext tabs1 ob nf nstk co
  refine Calls.spliced_nil ⟨I1.kIn, ?_⟩
  have bd := hb s1 [.ref f] I1.kIn rfl
  have run : codeAny (model X.prog X.w) X.A (.call (.ref g) ⟨[.ref f], []⟩) (CR C8.CX0 X.stack X.prog X.w H1 s1 Q C8.E0) s1 := by
    refine run_ofS (N := Ng) (ps := [a]) (us := [.ref f]) (vs := [.ref f]) lk cod S room I1.env0 bd (.cons rfl .nil) rfl (fun room2 => ?_)
    obtain ⟨r, h1, h2⟩ := gives f c2 s1 H1 Q (fun E H2 Q2 => t E σ H2 Q2) (fun tk => pe_ask (i := 0) (tb := t) I1 L ob nf nstk (bind _ _ _ _ _) tk room2 gd (fun A outer s H E r2 g2 => inside A outer s H E f c2 r2 g2) hN hv d2 d3) co (want H1 ext tabs1)
    exact ⟨r, h1.nox, h2⟩
  refine wpAny_call (codeAny_mono run ?_)
  intro r s2 q
  cases r with
  | error er => exact (show False from q).elim
  | ok fl =>
    cases fl with
    | ret u => exact I1.after q
    | next => exact q.elim
    | brk => exact q.elim
    | cont => exact q.elim
end
end Es
set_option Elab.async false
set_option linter.all false
set_option maxRecDepth 100000
set_option maxHeartbeats 4000000
namespace Es
open PySem PySem.Spec PyProof.Rows L2 LamX
theorem exm_of {K : PySem.W.Frag} {S B : Addr} {r : Bool} (h1 : PySem.W.subIn K (.ref B) (.type "BaseException") = some true) (h2 : PySem.W.isClsIn K B = true) (h3 : PySem.W.typeIn K (.ref B) = some (.type "type")) (h4 : PySem.W.subIn K (.ref S) (.ref B) = some r) :
    PySem.W.exmOne K (.ref S) (.ref B) = some r := by
  unfold PySem.W.exmOne
  have e1 : (PySem.W.subIn K (.ref B) (.type "BaseException") == some true) = true := by rw [h1]; rfl
  have h2 : (PySem.W.clsIn K B).isSome = true := h2
  have e2 : ((PySem.W.clsIn K B).isSome && PySem.W.typeIn K (.ref B) == some (.type "type")) = true := by rw [h2, h3]; rfl
  rw [if_pos e1]
  show (if ((PySem.W.clsIn K B).isSome && PySem.W.typeIn K (.ref B) == some (.type "type")) = true then PySem.W.subIn K (.ref S) (.ref B) else none) = some r
  rw [if_pos e2]
  exact h4
structure HearC (K : PySem.W.Frag) (mg : Str → Option Value) (x n : Str) (C : Addr) : Prop where
  gC : mg x = some (.ref C)
  xf : XfC K C
  no : PySem.W.findIn K (.ref C) n = some none
  me : PySem.W.exmOne K (.ref C) (.ref C) = some true
def ToldBy (C : Addr) (n lab : Str) (Q : VK) : XK := fun cls d H => cls = .ref C ∧ ∃ (dd : Addr) (fs : List (Str × V)) (v : V), d = some dd ∧ H dd = some (.xd fs) ∧ fs.lookup n = some v ∧ ∀ p, H p = none → Q (.ref p) (upd H p (.tup [.str lab, v]))
def tsField (C : Addr) (i : Nat) (n lab : Str) : Addr → Value → Option Addr → TS := fun a cls d => tRet (tTup (tCons (tC (.str lab)) (tCons (tXf a cls d C n (tVar i)) tNil)))
theorem suiteField {X : Cx} {x n e lab : Str} {C a : Addr} {i j j2 : Nat} {oe : Obj} {cls : Value} {d : Option Addr} {pn : List (Addr × Obj)} {p1 p2 p3 p4 p5 : Pos} (T : HearC X.K X.mg x n C) (hz : Zc cls d oe) (hf : ∃ vs, oe.data = .fields vs) (hN : X.N[i]? = some e) (hv : Vis X.env.scope e)
    (hd : (e == ("__debug__" : Str)) = false := by decide) (hc : (e == ("__classdict__" : Str)) = false := by decide) (hb : attributeBase (.Name e p2) n X.env (eval (.Name e p2) X.env) = eval (.Name e p2) X.env := by rfl) :
    PSs (X.suite a ((a, oe) :: pn)) [.Return (some (.Tuple [.Constant (.str lab) j p1, .Attribute (.Name e p2) n p3] j2 p4)) p5] (tsField C i n lab a cls d) :=
  pss_one (ps_ret (pe_tup (pa_cons pe_str (pa_cons (pe_xf T.xf T.no hz hf (pe_var (i := i) hN hv hd hc) hb) pa_nil))))
theorem suiteField_ok {C a : Addr} {i : Nat} {n lab : Str} {d : Option Addr} {cls : Value} {D : Ends} {σ : L2.St} {H : Hp} {Q : VK} (h : ToldBy C n lab Q cls d H) (hs : σ[i]? = some (some (.ref a))) (hD : D.rt = Q) : tsField C i n lab a cls d D σ H := by
  obtain ⟨rfl, dd, fs, v, rfl, h1, h2, h3⟩ := h
  refine ⟨.ref a, hs, rfl, rfl, dd, fs, v, rfl, h1, h2, (by show 2 ≤ sizeLine; decide), fun p np => ?_⟩
  rw [hD]
  exact h3 p np
end Es
set_option Elab.async false
set_option linter.all false
set_option maxRecDepth 100000
set_option maxHeartbeats 4000000
namespace Es
open PySem PySem.Spec PyProof.Rows L2 LamX
abbrev noRows : Obj := { cls := .none, data := .fields #[] }
theorem lawT_at {P : Program} {w : World} {K : PySem.W.Frag} {mg mb : Str → Option Value} {k : Nat} {fa a : Addr} {cs : List (Addr × Addr)} {fd : FuncData} {x : Str} {sp : Sp} {t : Shared} {xs : List Value} {ns : List Int}
    (inK : K.In t.heap) (gns : t.heap.Ns mainGlobals mg) (bns : t.heap.Ns builtinsNs mb) (bst : ∀ x : Str, x ≠ "__name__" → mb x = bootBuiltins x) (lim : t.heap.NoLimit) (gen : t.gens = #[])
    (tabs : ∀ p ∈ cs, t.heap.get? p.2 = some noRows) (noK : ∀ p ∈ cs, K.lookup p.2 = none) (codes : ∀ p ∈ cs, PySem.W.CodeHd t.heap p.1 p.2)
    (bmod : ∃ (bm : Addr) (ob : Obj), mg "__builtins__" = some (.ref bm) ∧ bm ≠ builtinsNs ∧ t.heap.get? bm = some ob ∧ ob.cls = .type "module" ∧ ob.dict = some builtinsNs ∧ ob.data = .plain)
    (scr : t.heap.get? a = some { cls := .type "list", data := .seq xs.toArray }) (vals : Vals (ns.map V.int) xs) (short : ns.length ≤ sizeLine) (room : Room k callerA)
    (F : ∀ base : Heap, K.In base → base.Ns mainGlobals mg → (∀ p ∈ cs, TabB base mg p.1 p.2) → FnG P w K mg base k fa fd [x] sp) (bind : ∀ (s : Shared) (u : Value), BindsTo s fd ⟨[u], []⟩ [(x, u)])
    (want : ∀ H : Hp, (∀ p ∈ cs, H p.2 = some (.tbl #[])) → SqL K H a (ns.map V.int) → sp [.ref a] H (fun v _ => v = .bl true) E0) :
    codeAny (model P w) callerA (.call (.ref fa) ⟨[.ref a], []⟩) (fun r s' => r = .ok (.ret (.bool true)) ∧ PySem.OldK t.heap s'.heap ∧ s'.os = t.os ∧ AllBare s'.gens) t := by
  obtain ⟨T, eT⟩ : ∃ T : List Addr, T = cs.map (·.2) := ⟨_, rfl⟩
  have inT : ∀ {p}, p ∈ cs → p.2 ∈ T := fun {p} hp => by rw [eT]; exact List.mem_map.mpr ⟨p, hp, rfl⟩
  have ofT : ∀ {b}, b ∈ T → ∃ p ∈ cs, p.2 = b := fun {b} hb => by rw [eT] at hb; exact List.mem_map.mp hb
  have tab_ : ∀ {b}, b ∈ T → t.heap.get? b = some noRows := fun {b} hb => by
    obtain ⟨p, hp, rfl⟩ := ofT hb
    exact tabs p hp
  have notA : a ∉ T := fun z => by
    have q := (tab_ z).symm.trans scr
    have q := congrArg Obj.data (Option.some.inj q)
    cases q
  suffices core : ∀ H : Hp, (∀ b, b ∈ T → H b = some (.tbl #[])) → (∀ b, b ∉ T → b ≠ a → H b = none) → (H a = none ∨ (H a = some (.frz { cls := .type "list", data := .seq xs.toArray } (.lst (ns.map V.int))) ∧ K.lookup a = none)) → SqL K H a (ns.map V.int) →
      codeAny (model P w) callerA (.call (.ref fa) ⟨[.ref a], []⟩) (fun r s' => r = .ok (.ret (.bool true)) ∧ PySem.OldK t.heap s'.heap ∧ s'.os = t.os ∧ AllBare s'.gens) t by
    cases hk : K.lookup a with
    | some ob =>
      have e := inK a ob hk
      rw [scr] at e
      cases e
      refine core (fun b => if b ∈ T then some (.tbl #[]) else none) (fun b hb => if_pos hb) (fun b hb _ => if_neg hb) (.inl (if_neg notA)) (.inr ⟨_, xs.toArray, _, hk, rfl, rfl, rfl, ?_, ?_⟩)
      · have l := vals.length
        rw [List.length_map] at l
        rw [List.size_toArray, ← l]
        exact short
      · simpa using vals
    | none =>
      refine core (fun b => if b = a then some (.frz { cls := .type "list", data := .seq xs.toArray } (.lst (ns.map V.int))) else if b ∈ T then some (.tbl #[]) else none) (fun b hb => ?_) (fun b hb n => ?_) (.inr ⟨if_pos rfl, hk⟩) (.inl (.inr ⟨_, if_pos rfl⟩))
      · rw [if_neg (fun z => notA (by rw [← z]; exact hb)), if_pos hb]
      · rw [if_neg n, if_neg hb]
  intro H hT hN hA hS
  have held : HOk P w H t.heap := by
    intro b u z
    by_cases h1 : b ∈ T
    · have e := (hT b h1).symm.trans z
      cases e
      exact tab_ h1
    · by_cases h2 : b = a
      · subst h2
        rcases hA with q | ⟨q, _⟩
        · rw [q] at z; cases z
        · have e := q.symm.trans z
          cases e
          exact ⟨scr, by rw [List.length_map]; exact short, xs, _, vals, scr⟩
      · rw [hN b h1 h2] at z
        cases z
  have free : ∀ {b : Addr} {o : Obj}, t.heap.get? b = some o → (∀ vs n, o.data ≠ .seq vs n) → o.data ≠ .fields #[] → H b = none := by
    intro b o e n1 n2
    by_cases h1 : b ∈ T
    · have q := (tab_ h1).symm.trans e
      cases q
      exact (n2 rfl).elim
    · by_cases h2 : b = a
      · subst h2
        rw [scr] at e
        cases e
        exact (n1 _ _ rfl).elim
      · exact hN b h1 h2
  have seen : ∀ {b : Addr} {o : Obj}, t.heap.get? b = some o → (∀ vs n, o.data ≠ .seq vs n) → o.data ≠ .fields #[] → (hidT t.heap H).get? b = some o := fun e n1 n2 => hidT_get e (free e n1 n2)
  have dicts : ∀ {b : Addr} {m : Str → Option Value}, t.heap.Ns b m → (hidT t.heap H).Ns b m := by
    rintro b m ⟨o, es, ep, e, d, more⟩
    exact ⟨o, es, ep, seen e (fun vs n z => by rw [d] at z; cases z) (fun z => by rw [d] at z; cases z), d, more⟩
  have inB : K.In (hidT t.heap H) := by
    intro b o e
    refine hidT_get (inK b o e) ?_
    by_cases h1 : b ∈ T
    · obtain ⟨p, hp, rfl⟩ := ofT h1
      rw [noK p hp] at e
      cases e
    · by_cases h2 : b = a
      · subst h2
        rcases hA with q | ⟨_, q⟩
        · exact q
        · rw [q] at e; cases e
      · exact hN b h1 h2
  obtain ⟨mc, lm1, lm2⟩ := lim
  have md : Mod K mg (hidT t.heap H) := ⟨inB, dicts gns, ⟨mb, dicts bns, bst⟩, ⟨mc, dicts lm1, lm2⟩⟩
  have TB : ∀ p ∈ cs, TabB (hidT t.heap H) mg p.1 p.2 := by
    intro p hp
    have hp2 := tabs p hp
    have nG : mainGlobals ≠ p.2 := fun z => by
      obtain ⟨o, es, ep, e, d, _⟩ := gns
      rw [z, hp2] at e
      cases e
      cases d
    refine ⟨?_, ?_, nG⟩
    · obtain ⟨o, us, q1, q2, q3, q4, q5, q6, q7, e1, r1, r2, r3, more⟩ := codes p hp
      refine ⟨o, us, q1, q2, q3, q4, q5, q6, q7, seen e1 (fun vs n z => ?_) (fun z => ?_), r1, r2, r3, more⟩
      · rw [r2] at z
        cases z
      · rw [r2] at z
        cases z
        simp at r3
    · obtain ⟨bm, ob, b1, b2, b3, b4, b5, b6⟩ := bmod
      refine ⟨bm, ob, b1, b2, fun z => ?_, fun z => ?_, seen b3 (fun vs n z => by rw [b6] at z; cases z) (fun z => by rw [b6] at z; cases z), b4, b5, b6⟩
      · obtain ⟨o, es, ep, e, d, _⟩ := gns
        rw [z, e] at b3
        cases b3
        rw [d] at b6
        cases b6
      · rw [z, hp2] at b3
        cases b3
        cases b6
  have env : Env0 P w K mg (hidT t.heap H) callerA [] t H :=
    ⟨rfl, md, fun _ _ e => of_hidT e, Nat.le_of_eq (hidT_size _ _), trivial, (fun b hb => by cases hb), held, .of_eq gen⟩
  have run := (F _ inB (dicts gns) TB).runG (out := []) (t := t) (G := H) (ar := ⟨[.ref a], []⟩) (xs := [.ref a]) (ys := [.ref a]) room rfl env (bind t (.ref a)) (.cons rfl .nil) (want H (fun p hp => hT _ (inT hp)) hS)
  refine codeAny_mono run ?_
  intro r s' h
  cases r with
  | error e => exact False.elim h
  | ok fl =>
    cases fl with
    | next => exact False.elim h
    | brk => exact False.elim h
    | cont => exact False.elim h
    | ret u =>
      obtain ⟨v, H', os, bare, un, held', rel, q⟩ := h
      have q : v = .bl true := q
      subst q
      have rel : u = Value.bool true := rel
      subst rel
      have stays : ∀ b o, b ∉ T → t.heap.get? b = some o → s'.heap.get? b = some o := by
        intro b o nb e
        by_cases h2 : b = a
        · subst h2
          rcases hA with q | ⟨q, _⟩
          · exact un.keep b o e q (fun z => by cases z) (fun z => by cases z)
          · obtain ⟨g2, _⟩ := held' b _ (un.frzs b _ _ q)
            rw [scr] at e
            cases e
            exact g2
        · exact un.keep b o e (hN b nb h2) (fun z => by cases z) (fun z => by cases z)
      have grown : ∀ b, b ∈ T → ∃ more : Array Value, s'.heap.get? b = some { cls := .none, data := .fields more } := by
        intro b hb
        obtain ⟨more, z⟩ := un.tbls b #[] (hT b hb)
        exact ⟨_, held' b _ z⟩
      refine ⟨rfl, ⟨fun b o e => ?_, fun b o e => ?_⟩, os, bare⟩
      · by_cases hb : b ∈ T
        · obtain ⟨more, hm⟩ := grown b hb
          have e2 := (tab_ hb).symm.trans e
          cases e2
          obtain ⟨p, hp, rfl⟩ := ofT hb
          refine .inr (.inl ⟨((codes p hp).tab (tabs p hp)).isCodeTable, rfl, #[], more, rfl, ?_⟩)
          rw [Array.empty_append]
          exact hm
        · exact .inl (stays b o hb e)
      · by_cases hb : b ∈ T
        · obtain ⟨more, hm⟩ := grown b hb
          exact ⟨_, hm⟩
        · exact ⟨o, stays b o hb e⟩
theorem walkT {l : PySem.W.OpenLaw} {n k : Nat} {q : Program} {loose : List Str} {XP : (Str → Option Value) → Heap → Prop} {YP : World → Heap → Prop} {d : PySem.DefRec} {K : Params → PySem.W.Frag} {sp : PySem.W.Frag → Sp} {x : Str} {cs : List (Addr × Addr)}
    (hn : l.most = some n) (hn2 : n ≤ sizeLine) (hdf : d.params.defaults = []) (hr : Room k callerA)
    (hY : ∀ (w : World) (h : Heap), YP w h → (K w.params).In h) (hT : ∀ (w : World) (h : Heap), YP w h → ∀ p ∈ cs, h.get? p.2 = some noRows) (noK : ∀ w : World, ∀ p ∈ cs, (K w.params).lookup p.2 = none) (hc : ∀ w : World, ∀ p ∈ cs, PySem.W.codeHdIn (K w.params) p.1 p.2 = true)
    (F : ∀ (w : World) (mg : Str → Option Value) (fa : Addr) (h : Heap), (K w.params).In h → h.Ns mainGlobals mg → mg d.name = some (.ref fa) →
      ∃ fd : FuncData, (∀ (s : Shared) (u : Value), BindsTo s fd ⟨[u], []⟩ [(x, u)]) ∧
        ∀ base : Heap, (K w.params).In base → base.Ns mainGlobals mg → (∀ p ∈ cs, TabB base mg p.1 p.2) → FnG l.prog w (K w.params) mg base k fa fd [x] (sp (K w.params)))
    (hsp : ∀ (K : PySem.W.Frag) (H : Hp) (a : Addr) (ns : List Int), ns.length ≤ n → SqL K H a (ns.map V.int) → (∀ p ∈ cs, H p.2 = some (.tbl #[])) → sp K [.ref a] H (fun v _ => v = .bl true) E0) :
    PySem.W.WalkO q loose XP YP l.row.toRowW d [] (fun f vs => PySem.call f vs) := by
  refine Att.attach_callB hn hdf ?_
  intro w s₀ t mg mb fa o pm cd doc a xs ns G Y ho hd hcd hmg scr hints len bits gen
  have inK := hY w _ Y
  obtain ⟨fd, bind, FF⟩ := F w mg fa _ inK G.T.g hmg
  exact lawT_at inK G.T.g G.T.b G.T.builtins G.T.nolimit gen (hT w _ Y) (noK w) (fun p hp => PySem.W.codeHd_of_K inK (hc w p hp)) G.T.bmain scr (vals_ints hints) (Nat.le_trans len hn2) hr FF bind (fun H h1 h2 => hsp _ H a ns len h2 h1)
end Es
namespace Es
open PySem PySem.Spec PyProof.Rows L2 LamX
theorem walkT1 {l : PySem.W.OpenLaw} {n k : Nat} {q : Program} {loose : List Str} {XP : (Str → Option Value) → Heap → Prop} {YP : World → Heap → Prop} {d : PySem.DefRec} {K : Params → PySem.W.Frag} {sp : Addr → PySem.W.Frag → Sp} {x : Str} {c P : Addr}
    (hn : l.most = some n) (hn2 : n ≤ sizeLine) (hdf : d.params.defaults = []) (hr : Room k callerA)
    (hY : ∀ (w : World) (h : Heap), YP w h → (K w.params).In h) (hT : ∀ (w : World) (h : Heap), YP w h → h.get? P = some noRows) (noK : ∀ w : World, (K w.params).lookup P = none)
    (F : ∀ (w : World) (mg : Str → Option Value) (fa : Addr) (h : Heap), (K w.params).In h → h.Ns mainGlobals mg → mg d.name = some (.ref fa) →
      ∃ fd : FuncData, (∀ (s : Shared) (u : Value), BindsTo s fd ⟨[u], []⟩ [(x, u)]) ∧
        ∀ base : Heap, (K w.params).In base → base.Ns mainGlobals mg → TabB base mg c P → FnG l.prog w (K w.params) mg base k fa fd [x] (sp P (K w.params)))
    (hc : ∀ w : World, PySem.W.codeHdIn (K w.params) c P = true)
    (hsp : ∀ (K : PySem.W.Frag) (H : Hp) (a : Addr) (ns : List Int), ns.length ≤ n → SqL K H a (ns.map V.int) → H P = some (.tbl #[]) → sp P K [.ref a] H (fun v _ => v = .bl true) E0) :
    PySem.W.WalkO q loose XP YP l.row.toRowW d [] (fun f vs => PySem.call f vs) := by
  refine walkT (cs := [(c, P)]) (sp := sp P) (x := x) hn hn2 hdf hr hY (fun w h Y p hp => ?_) (fun w p hp => ?_) (fun w p hp => ?_) (fun w mg fa h a b e => ?_) (fun K H a ns h1 h2 h3 => hsp K H a ns h1 h2 (h3 _ List.mem_cons_self))
  · rw [List.mem_singleton.mp hp]; exact hT w h Y
  · rw [List.mem_singleton.mp hp]; exact noK w
  · rw [List.mem_singleton.mp hp]; exact hc w
  · obtain ⟨fd, h1, h2⟩ := F w mg fa h a b e
    exact ⟨fd, h1, fun base i1 i2 i3 => h2 base i1 i2 (i3 _ List.mem_cons_self)⟩
end Es
set_option Elab.async false
set_option linter.all false
set_option maxRecDepth 100000
set_option maxHeartbeats 4000000
namespace Es
open PySem PySem.Spec PyProof.Rows L2
def topS (i : Nat) : Stmt := PySem.Challenge.pw_eithersums_k10_least_flats_and_all_flats.main.body.getD i (.Pass ⟨0, 0, 0, 0⟩)
abbrev s_together : Stmt := topS 6
theorem sc_together : FnScope ["sums", "odd", "row", "unknown"] ["sums"] (defScope s_together) := ⟨rfl, rfl, rfl, by decide +kernel, rfl, by decide +kernel, by decide +kernel⟩
abbrev s_worth_of : Stmt := topS 7
theorem sc_worth_of : FnScope ["row", "bits", "unknown"] ["row", "bits"] (defScope s_worth_of) := ⟨rfl, rfl, rfl, by decide +kernel, rfl, by decide +kernel, by decide +kernel⟩
abbrev s_holds : Stmt := topS 9
theorem sc_holds : FnScope ["line", "bits", "row", "bit"] ["line", "bits"] (defScope s_holds) := ⟨rfl, rfl, rfl, by decide +kernel, rfl, by decide +kernel, by decide +kernel⟩
abbrev s_flat_of : Stmt := topS 12
theorem sc_flat_of : FnScope ["lines", "flat", "line", "row", "bit", "old"] ["lines"] (defScope s_flat_of) := ⟨rfl, rfl, rfl, by decide +kernel, rfl, by decide +kernel, by decide +kernel⟩
abbrev s_is_in : Stmt := topS 13
theorem sc_is_in : FnScope ["flat", "bits", "line"] ["flat", "bits"] (defScope s_is_in) := ⟨rfl, rfl, rfl, by decide +kernel, rfl, by decide +kernel, by decide +kernel⟩
abbrev s_lies_in : Stmt := topS 14
theorem sc_lies_in : FnScope ["one", "other", "row", "bit"] ["one", "other"] (defScope s_lies_in) := ⟨rfl, rfl, rfl, by decide +kernel, rfl, by decide +kernel, by decide +kernel⟩
abbrev s_told_on : Stmt := topS 15
theorem sc_told_on : FnScope ["flat", "row", "rest", "worth"] ["flat", "row"] (defScope s_told_on) := ⟨rfl, rfl, rfl, by decide +kernel, rfl, by decide +kernel, by decide +kernel⟩
abbrev s_least_flat : Stmt := topS 16
theorem sc_least_flat : FnScope ["some", "flat", "unknown", "bit", "bits"] ["some"] (defScope s_least_flat) := ⟨rfl, rfl, rfl, by decide +kernel, rfl, by decide +kernel, by decide +kernel⟩
abbrev s_all_flats : Stmt := topS 17
theorem sc_all_flats : FnScope ["many", "found", "unknown", "flat", "line"] ["many"] (defScope s_all_flats) := ⟨rfl, rfl, rfl, by decide +kernel, rfl, by decide +kernel, by decide +kernel⟩
abbrev s_both : Stmt := topS 18
theorem sc_both : FnScope ["one", "other"] ["one", "other"] (defScope s_both) := ⟨rfl, rfl, rfl, by decide +kernel, rfl, by decide +kernel, by decide +kernel⟩
abbrev s_without_heads : Stmt := topS 19
theorem sc_without_heads : FnScope ["flat", "line", "rest", "other"] ["flat", "line"] (defScope s_without_heads) := ⟨rfl, rfl, rfl, by decide +kernel, rfl, by decide +kernel, by decide +kernel⟩
abbrev s_widened : Stmt := topS 20
theorem sc_widened : FnScope ["flat", "bits", "wrong", "line", "right"] ["flat", "bits"] (defScope s_widened) := ⟨rfl, rfl, rfl, by decide +kernel, rfl, by decide +kernel, by decide +kernel⟩
abbrev s_lines_ahead : Stmt := topS 21
theorem sc_lines_ahead : FnScope ["many", "unknown", "flat", "heads", "row", "bit", "rows", "other"] ["many", "unknown", "flat"] (defScope s_lines_ahead) := ⟨rfl, rfl, rfl, by decide +kernel, rfl, by decide +kernel, by decide +kernel⟩
abbrev s_law_bag : Stmt := topS 23
theorem sc_law_bag : FnScope ["script", "cell"] ["script"] (defScope s_law_bag) := ⟨rfl, rfl, rfl, by decide +kernel, rfl, by decide +kernel, by decide +kernel⟩
abbrev s_law_take : Stmt := topS 24
theorem sc_law_take : FnScope ["bag", "many", "cell", "stirred", "value", "begin", "second"] ["bag", "many"] (defScope s_law_take) := ⟨rfl, rfl, rfl, by decide +kernel, rfl, by decide +kernel, by decide +kernel⟩
abbrev s_law_some : Stmt := topS 25
theorem sc_law_some : FnScope ["bag", "things"] ["bag", "things"] (defScope s_law_some) := ⟨rfl, rfl, rfl, by decide +kernel, rfl, by decide +kernel, by decide +kernel⟩
abbrev s_law_alike : Stmt := topS 26
theorem sc_law_alike : FnScope ["found", "due"] ["found", "due"] (defScope s_law_alike) := ⟨rfl, rfl, rfl, by decide +kernel, rfl, by decide +kernel, by decide +kernel⟩
abbrev s_law_mask : Stmt := topS 27
theorem sc_law_mask : FnScope ["row", "found", "unknown"] ["row"] (defScope s_law_mask) := ⟨rfl, rfl, rfl, by decide +kernel, rfl, by decide +kernel, by decide +kernel⟩
abbrev s_law_row : Stmt := topS 28
theorem sc_law_row : FnScope ["mask", "unknown"] ["mask"] (defScope s_law_row) := ⟨rfl, rfl, rfl, by decide +kernel, rfl, by decide +kernel, by decide +kernel⟩
abbrev s_law_worth : Stmt := topS 29
theorem sc_law_worth : FnScope ["row", "bits", "unknown"] ["row", "bits"] (defScope s_law_worth) := ⟨rfl, rfl, rfl, by decide +kernel, rfl, by decide +kernel, by decide +kernel⟩
abbrev s_law_room : Stmt := topS 30
theorem sc_law_room : FnScope ["many", "whole", "columns", "unknown", "side", "block", "found", "at"] ["many"] (defScope s_law_room) := ⟨rfl, rfl, rfl, by decide +kernel, rfl, by decide +kernel, by decide +kernel⟩
abbrev s_law_held : Stmt := topS 31
theorem sc_law_held : FnScope ["room", "line", "found", "unknown"] ["room", "line"] (defScope s_law_held) := ⟨rfl, rfl, rfl, by decide +kernel, rfl, by decide +kernel, by decide +kernel⟩
abbrev s_law_in : Stmt := topS 32
theorem sc_law_in : FnScope ["room", "flat", "found", "line"] ["room", "flat"] (defScope s_law_in) := ⟨rfl, rfl, rfl, by decide +kernel, rfl, by decide +kernel, by decide +kernel⟩
abbrev s_law_bits : Stmt := topS 33
theorem sc_law_bits : FnScope ["room", "place", "unknown"] ["room", "place"] (defScope s_law_bits) := ⟨rfl, rfl, rfl, by decide +kernel, rfl, by decide +kernel, by decide +kernel⟩
abbrev s_law_least : Stmt := topS 34
theorem sc_law_least : FnScope ["room", "some"] ["room", "some"] (defScope s_law_least) := ⟨rfl, rfl, rfl, by decide +kernel, rfl, by decide +kernel, by decide +kernel⟩
abbrev s_law_listed : Stmt := topS 35
theorem sc_law_listed : FnScope ["room", "some", "found"] ["room", "some"] (defScope s_law_listed) := ⟨rfl, rfl, rfl, by decide +kernel, rfl, by decide +kernel, by decide +kernel⟩
abbrev s_law_flat_of : Stmt := topS 36
theorem sc_law_flat_of : FnScope ["lines", "heads", "row", "bit", "mask", "head", "at"] ["lines"] (defScope s_law_flat_of) := ⟨rfl, rfl, rfl, by decide +kernel, rfl, by decide +kernel, by decide +kernel⟩
abbrev s_law_told : Stmt := topS 37
theorem sc_law_told : FnScope ["flat", "row", "mask", "found", "line"] ["flat", "row"] (defScope s_law_told) := ⟨rfl, rfl, rfl, by decide +kernel, rfl, by decide +kernel, by decide +kernel⟩
abbrev s_law_halves : Stmt := topS 38
theorem sc_law_halves : FnScope ["flat", "row", "bit"] ["flat", "row"] (defScope s_law_halves) := ⟨rfl, rfl, rfl, by decide +kernel, rfl, by decide +kernel, by decide +kernel⟩
abbrev s_law_any_row : Stmt := topS 39
theorem sc_law_any_row : FnScope ["bag", "many", "mask", "turn"] ["bag", "many"] (defScope s_law_any_row) := ⟨rfl, rfl, rfl, by decide +kernel, rfl, by decide +kernel, by decide +kernel⟩
abbrev s_law_drawn_flat : Stmt := topS 40
theorem sc_law_drawn_flat : FnScope ["bag", "many", "most", "bits", "lines", "unknown", "turn", "row"] ["bag", "many", "most"] (defScope s_law_drawn_flat) := ⟨rfl, rfl, rfl, by decide +kernel, rfl, by decide +kernel, by decide +kernel⟩
abbrev s_law_all_flats : Stmt := topS 42
theorem sc_law_all_flats : FnScope ["many", "found", "line", "flat", "mask", "half"] ["many"] (defScope s_law_all_flats) := ⟨rfl, rfl, rfl, by decide +kernel, rfl, by decide +kernel, by decide +kernel⟩
abbrev s_law_common_flat : Stmt := topS 43
theorem sc_law_common_flat : FnScope ["many", "some", "lines", "mask", "worths", "bits"] ["many", "some"] (defScope s_law_common_flat) := ⟨rfl, rfl, rfl, by decide +kernel, rfl, by decide +kernel, by decide +kernel⟩
abbrev s_law_is_least_right : Stmt := topS 44
theorem sc_law_is_least_right : FnScope ["bag", "many", "room", "flat", "inside", "some", "k", "few", "due", "kept", "told", "bits"] ["bag", "many"] (defScope s_law_is_least_right) := ⟨rfl, rfl, rfl, by decide +kernel, rfl, by decide +kernel, by decide +kernel⟩
abbrev s_law : Stmt := topS 45
theorem sc_law : FnScope ["script", "bag", "turn", "many", "due", "again", "told"] ["script"] (defScope s_law) := ⟨rfl, rfl, rfl, by decide +kernel, rfl, by decide +kernel, by decide +kernel⟩
structure Txt (mg : Str → Option Value) : Prop where
  z_tuple : mg "tuple" = none
  z_sorted : mg "sorted" = none
  z_sum : mg "sum" = none
  z_enumerate : mg "enumerate" = none
  z_reversed : mg "reversed" = none
  z_range : mg "range" = none
  z_abs : mg "abs" = none
  z_int : mg "int" = none
  z_len : mg "len" = none
  z_repr : mg "repr" = none
  z_list : mg "list" = none
  z_set : mg "set" = none
  g_MOST_UNKNOWNS_LISTED : ∃ t, mg "MOST_UNKNOWNS_LISTED" = some (.int 4 t)
end Es
set_option Elab.async false
set_option linter.all false
set_option maxRecDepth 100000
set_option maxHeartbeats 4000000
namespace Es
open PySem PySem.Spec PyProof.Rows L2
section
variable {P : Program} {w : World} {K : PySem.W.Frag} {mg : Str → Option Value} {base : Heap}
theorem ok_law_bag {f : Addr} {fd : FuncData} (F : Fun K "_law_bag" "_law_bag" s_law_bag f fd) (T : Txt mg)  : FnG P w K mg base 1 f fd ["script"] (sp_law_bag K) := by
  refine okG F sc_law_bag (fun h => ?_) (fun cdv B out t0 G ys R E hr hg h => ?_)
  · obtain ⟨a, ns, rfl, _⟩ := h
    rfl
  · obtain ⟨a, ns, rfl, hS, hl, k⟩ := h
    refine ⟨_, (pss_one
        (ps_ret (pe_lst (pa_cons pe_int (pa_cons pe_int (pa_cons pe_int (pa_cons (pe_lc (own := [("cell", 1)]) rfl sc_law_bag.nd (pi_list (pe_slice sl_list (pv 0) po_none (po_some pe_int))) (blkOk_by (own := [("cell", 1)]) (N := ["script", "cell"]) (sc := defScope s_law_bag) (by decide +kernel)) (fun _ _ _ _ _ => (pg_name (i := 1) sc_law_bag.nd rfl (.inl rfl))) (fun _ _ _ _ _ => pts_nil) (fun _ _ _ _ _ => (pe_callB call_abs (by rfl) T.z_abs (by decide +kernel) (pa_cons (pv 1) pa_nil)))) pa_nil))))))), ?_⟩
    refine ⟨_, rfl, _, rfl, a, _, rfl, hS, fun p np => ?_⟩
    have s0 := same_new (o := .lst (cutV (ns.map V.int) none (some 63))) np
    obtain ⟨ds, eds, dsl⟩ : ∃ ds : List Int, cutV (ns.map V.int) none (some 63) = ds.map V.int ∧ ds.length ≤ ns.length := by
      have hl := cutV_length (ns.map V.int) none (some 63)
      unfold cutV at hl ⊢
      rw [← List.map_drop, ← List.map_take] at hl ⊢
      exact ⟨_, rfl, by simpa using hl⟩
    rw [eds] at s0 ⊢
    refine ⟨p, rfl, ⟨_, .inl (.inl upd_same)⟩, fun D hD => ?_⟩
    have nGD : G D = none := s0.free hD
    refine lc_list (K := K) (a := p) (xs := ds.map V.int) (fun i H => ∃ cs : List Int, H D = some (.lst (cs.map V.int)) ∧ Same (upd G p (.lst (ds.map V.int))) H ∧ cs.length = i ∧ ∀ c ∈ cs, 0 ≤ c)
      ⟨[], upd_same, same_new hD, rfl, fun c hc => by cases hc⟩ (fun i H _ ⟨_, _, s, _⟩ => .inl (.inl (s _ _ upd_same))) ?_ ?_
    · rintro i x H hi ⟨cs, ec, sa, lc, c0⟩
      obtain ⟨z, rfl⟩ : ∃ z, x = V.int z := by
        rw [List.getElem?_map] at hi
        cases e : ds[i]? with
        | none => rw [e] at hi; cases hi
        | some z => rw [e] at hi; exact ⟨z, (Option.some.inj hi).symm⟩
      have hil : i < ds.length := by
        have := (List.getElem?_eq_some_iff.mp hi).1
        simpa using this
      refine ⟨rfl, _, rfl, _, rfl, _, ec, ?_, cs ++ [if z < 0 then -z else z], ?_, same_mut sa hD, by simp [lc], ?_⟩
      · rw [List.length_map, lc]
        exact small1000 (by omega)
      · rw [upd_same]
        simp
      · intro c hc
        rcases List.mem_append.mp hc with hc | hc
        · exact c0 c hc
        · have hc : c = if z < 0 then -z else z := by simpa using hc
          subst hc
          split <;> omega
    · rintro H ⟨cs, ec, sa, lc, c0⟩
      refine ⟨by show 4 ≤ sizeLine; decide, fun b nb => ?_⟩
      have sb := same_new (o := .lst [V.int 0, V.int 1234567891, V.int 0, V.ref D]) nb
      refine k _ b D ((s0.trans sa).trans sb) ((s0.trans sa).free nb) nGD ⟨0, 1234567891, 0, cs, upd_same, .inl (.inl (sb _ _ ec)), ?_, by decide, by decide, by decide, by decide, c0, ?_⟩
      · exact (ne_of_none ec nb).symm
      · rw [lc, List.length_map]
        omega
end
end Es
set_option Elab.async false
set_option linter.all false
set_option maxRecDepth 100000
set_option maxHeartbeats 4000000
namespace Es
open PySem PySem.Spec PyProof.Rows L2
section
variable {P : Program} {w : World} {K : PySem.W.Frag} {mg : Str → Option Value} {base : Heap}
theorem ok_law_take {f : Addr} {fd : FuncData} (F : Fun K "_law_take" "_law_take" s_law_take f fd) (T : Txt mg)  : FnG P w K mg base 1 f fd ["bag", "many"] (sp_law_take K) := by
  refine okG F sc_law_take (fun h => ?_) (fun cdv B out t0 G ys R E hr hg h => ?_)
  · obtain ⟨b, c, n, rfl, _⟩ := h
    rfl
  · obtain ⟨b, c, n, rfl, ⟨x, y, z, cs, hb, hc, nbc, x0, y0, y1, z0, cs0, cl⟩, n0, n1, k⟩ := h
    have hu := hu_of hr
    refine ⟨_, (Evl.pss_cut
        (ps_if (pt_cmpR op_eq (pe_ix ix_list (pv 0) pe_int (fun _ _ => rfl)) pe_int (nomark _))
        (pss_cons
          (ps_set (i := 2) sc_law_take.nd rfl (Or.inl rfl) (pe_ix ix_list (pe_op op_cat (pe_slice sl_list (pe_ix ix_list (pv 0) pe_int (fun _ _ => rfl)) (po_some (pe_ix ix_list (pv 0) pe_int (fun _ _ => rfl))) po_none) (pe_lst (pa_cons pe_int pa_nil))) pe_int (fun _ _ => rfl)))
          (pss_cons
          (ps_augS (pv 0) pe_int get_list pe_int ip_add set_list)
          (Evl.pss_cut
          (ps_if (pt_cmpR op_ge (pv 2) (pe_op op_pow pe_int pe_int) (nomark _))
          (pss_one
            (ps_asg (pv 2) (pg_sub (pv 0) pe_int set_list)))
          pss_nil)
          (pss_cons
          (ps_set (i := 3) sc_law_take.nd rfl (Or.inl rfl) (pe_op op_add (pe_op op_add (pe_op op_mul (pe_ix ix_list (pv 0) pe_int (fun _ _ => rfl)) pe_int) (pe_op op_mod (pe_callTy call_int1 (by rfl) T.z_int (by decide +kernel) (pa_cons (pv 2) pa_nil)) pe_int)) (pe_op op_mul pe_int (pe_ix ix_list (pv 0) pe_int (fun _ _ => rfl)))))
          (pss_one
          (ps_asg (pe_op op_mod (pe_callTy call_int1 (by rfl) T.z_int (by decide +kernel) (pa_cons (pv 3) pa_nil)) pe_int) (pg_sub (pv 0) pe_int set_list)))))))
        pss_nil)
        (pss_cons
        (ps_if (pt_cmpR op_gt (pe_ix ix_list (pv 0) pe_int (fun _ _ => rfl)) pe_int (nomark _))
        (pss_cons
          (ps_set (i := 4) sc_law_take.nd rfl (Or.inl rfl) (pe_op op_mod (pe_callTy call_int1 (by rfl) T.z_int (by decide +kernel) (pa_cons (pe_ix ix_list (pv 0) pe_int (fun _ _ => rfl)) pa_nil)) (pv 1)))
          (pss_cons
          (ps_asg (pe_op op_fdiv (pe_callTy call_int1 (by rfl) T.z_int (by decide +kernel) (pa_cons (pe_ix ix_list (pv 0) pe_int (fun _ _ => rfl)) pa_nil)) (pv 1)) (pg_sub (pv 0) pe_int set_list))
          (pss_one
          (ps_ret (pv 4)))))
        pss_nil)
        (pss_cons
        (ps_set (i := 5) sc_law_take.nd rfl (Or.inl rfl) (pe_op op_mod (pe_callTy call_int1 (by rfl) T.z_int (by decide +kernel) (pa_cons (pe_op op_mul (pe_op op_add (pe_ix ix_list (pv 0) pe_int (fun _ _ => rfl)) pe_int) pe_int) pa_nil)) pe_int))
        (pss_cons
        (ps_set (i := 6) sc_law_take.nd rfl (Or.inl rfl) (pe_op op_mod (pe_callTy call_int1 (by rfl) T.z_int (by decide +kernel) (pa_cons (pe_op op_mul (pe_op op_mod (pe_callTy call_int1 (by rfl) T.z_int (by decide +kernel) (pa_cons (pe_op op_mul (pv 5) (pv 5)) pa_nil)) pe_int) pe_int) pa_nil)) pe_int))
        (pss_one
        (ps_ret (pe_op op_mod (pe_callTy call_int1 (by rfl) T.z_int (by decide +kernel) (pa_cons (pe_op op_fdiv (pv 6) pe_int) pa_nil)) (pv 1)))))))), ?_⟩
    refine ⟨fun σ' H' => ∃ y2 y3, σ' = [some (.ref b), some (.int (n : Int)), y2, y3, none, none, none] ∧ But b G H' ∧ BagAt K H' b c, ?_, ?_⟩
    ·
      refine ⟨_, rfl, b, _, 0, _, rfl, rfl, .inl (.inl hb), atI_nat (j := 0) rfl, rfl, _, rfl, ite2 (fun _ => ?_) (fun _ => ?_)⟩
      ·
        refine ⟨_, rfl, b, _, 3, _, rfl, rfl, .inl (.inl hb), atI_nat (j := 3) rfl, _, rfl, b, _, 2, _, rfl, rfl, .inl (.inl hb), atI_nat (j := 2) rfl, z, rfl, c, _, rfl, hc, fun p np => ?_⟩
        have s1 := same_new (o := .lst (cutV (cs.map V.int) (some z) none)) np
        obtain ⟨ds, eds, ds0, dsl⟩ := cut_ints cs (some z) none cs0
        refine ⟨by show 1 ≤ sizeLine; decide, fun q nq => ?_⟩
        have s2 := s1.trans (same_new (o := .lst [V.int 0]) nq)
        refine ⟨p, q, _, _, rfl, rfl, same_new nq _ _ upd_same, upd_same, ?_, fun t nt => ?_⟩
        · rw [eds, List.length_map]
          show ds.length + 1 ≤ sizeLine
          exact Nat.le_trans (show ds.length + 1 ≤ 100 by omega) (by decide)
        have s3 := s2.trans (same_new (o := .lst (cutV (cs.map V.int) (some z) none ++ [V.int 0])) nt)
        obtain ⟨e0, ee0, e00⟩ : ∃ e0 : Int, (cutV (cs.map V.int) (some z) none ++ [V.int 0])[0]? = some (.int e0) ∧ 0 ≤ e0 := by
          rw [eds]
          cases ds with
          | nil => exact ⟨0, rfl, Int.le_refl _⟩
          | cons d0 dr => exact ⟨d0, rfl, ds0 d0 List.mem_cons_self⟩
        refine ⟨t, _, 0, _, rfl, rfl, .inl (.inl upd_same), atI_nat (j := 0) ee0, ?_⟩
        have hb3 := s3 _ _ hb
        refine ⟨_, rfl, b, _, 2, _, rfl, rfl, .inl (.inl hb3), rfl, _, _, rfl, rfl, b, _, 2, 2, rfl, rfl, hb3, rfl, ?_⟩
        refine ⟨fun σ' H' => ∃ x', σ' = [some (.ref b), some (.int (n : Int)), some (.int e0), none, none, none, none] ∧ But b G H' ∧ H' b = some (.lst [.int x', .int y, .int (z + 1), .ref c]) ∧ SqL K H' c (cs.map V.int) ∧ 0 ≤ x', ?_, ?_⟩
        · refine ⟨_, rfl, _, _, rfl, rfl, ⟨by decide, by decide, by decide⟩, _, _, rfl, rfl, _, rfl, ite2 (fun _ => ?_) (fun _ => ?_)⟩
          · refine ⟨_, rfl, _, rfl, b, _, 0, 0, rfl, rfl, upd_same, rfl, ?_⟩
            refine ⟨e0, rfl, ((But.same s3).trans But.at_).trans But.at_, upd_same, sqL_but nbc.symm But.at_ (sqL_but nbc.symm But.at_ (s3.seq hc)), e00⟩
          · exact ⟨x, rfl, (But.same s3).trans But.at_, upd_same, sqL_but nbc.symm But.at_ (s3.seq hc), x0⟩
        · rintro σ' H' ⟨x', rfl, s4, hb4, hc4, x0'⟩
          refine ⟨_, rfl, b, _, 1, _, rfl, rfl, .inl (.inl hb4), atI_nat (j := 1) rfl, _, _, rfl, rfl, .inr ⟨by decide, by decide⟩, _, rfl, .inl ⟨_, rfl, _, _, rfl, rfl, (by show (0 : Int) < 2147483647; decide), _, _, rfl, rfl,
            _, rfl, b, _, 2, _, rfl, rfl, .inl (.inl hb4), atI_nat (j := 2) rfl, _, _, rfl, rfl, .inl ⟨by decide, by decide⟩, _, _, rfl, rfl, ?_⟩⟩
          refine ⟨_, rfl, .inl ⟨_, rfl, _, _, rfl, rfl, (by show (0 : Int) < 2147483647; decide), _, rfl, b, _, 1, 1, rfl, rfl, hb4, rfl, ?_⟩⟩
          refine ⟨_, _, rfl, s4.trans But.at_, x', _, z + 1, cs, upd_same, sqL_but nbc.symm But.at_ hc4, nbc, x0', Int.emod_nonneg _ (by decide), Int.emod_lt_of_pos _ (by decide), by omega, cs0, cl⟩
      · exact ⟨_, _, rfl, But.refl _ _, x, y, z, cs, hb, hc, nbc, x0, y0, y1, z0, cs0, cl⟩
    · rintro σ' H' ⟨y2, y3, rfl, s1, x, y, z, cs, hb, hc, nbc, x0, y0, y1, z0, cs0, cl⟩
      refine ⟨_, rfl, b, _, 0, _, rfl, rfl, .inl (.inl hb), atI_nat (j := 0) rfl, _, _, rfl, rfl, _, rfl, ite2 (fun _ => ?_) (fun _ => ?_)⟩
      ·
        refine ⟨_, rfl, b, _, 0, _, rfl, rfl, .inl (.inl hb), atI_nat (j := 0) rfl, .inl ⟨_, rfl, _, rfl, _, _, rfl, rfl, by omega, ?_⟩⟩
        refine ⟨_, rfl, b, _, 0, _, rfl, rfl, .inl (.inl hb), atI_nat (j := 0) rfl, .inl ⟨_, rfl, _, rfl, _, _, rfl, rfl, ⟨by omega, by omega⟩, _, rfl, b, _, 0, 0, rfl, rfl, hb, rfl, ?_⟩⟩
        obtain ⟨r, er⟩ : ∃ r : Nat, x % (n : Int) = (r : Int) := ⟨(x % (n : Int)).toNat, (Int.toNat_of_nonneg (Int.emod_nonneg _ (by omega))).symm⟩
        refine ⟨_, rfl, ?_⟩
        show R (V.int (x % (n : Int))) _
        rw [er]
        refine k _ r (s1.trans But.at_) ⟨_, y, z, cs, upd_same, sqL_but nbc.symm But.at_ hc, nbc, Int.ediv_nonneg x0 (by omega), y0, y1, z0, cs0, cl⟩ ?_
        have := Int.emod_lt_of_pos x (b := (n : Int)) (by omega)
        omega
      ·
        have t1 : ∀ a : Int, (0 : Int) ≤ a % 1000000007 ∧ a % 1000000007 < 1000000007 := fun a => ⟨Int.emod_nonneg _ (by decide), Int.emod_lt_of_pos _ (by decide)⟩
        have t2 : ∀ a : Int, (0 : Int) ≤ a % 998244353 ∧ a % 998244353 < 998244353 := fun a => ⟨Int.emod_nonneg _ (by decide), Int.emod_lt_of_pos _ (by decide)⟩
        refine ⟨_, rfl, b, _, 1, _, rfl, rfl, .inl (.inl hb), atI_nat (j := 1) rfl, _, _, rfl, rfl, _, _, rfl, rfl, .inr ⟨by decide, by decide⟩, .inl ⟨_, rfl, _, _, rfl, rfl, (by show (0 : Int) < 1000000007; decide), ?_⟩⟩
        refine ⟨_, rfl, _, rfl, _, _, rfl, rfl, .inl ⟨by have := t1 ((y + 1) * 39373); omega, by have := t1 ((y + 1) * 39373); omega⟩, .inl ⟨_, rfl, _, _, rfl, rfl, (by show (0 : Int) < 998244353; decide), _, _, rfl, rfl, .inr ⟨by decide, by decide⟩, .inl ⟨_, rfl, _, _, rfl, rfl, (by show (0 : Int) < 998244353; decide), ?_⟩⟩⟩
        refine ⟨_, rfl, _, _, rfl, rfl, ⟨by decide, by decide⟩, .inl ⟨_, rfl, _, rfl, _, _, rfl, rfl, by omega, ?_⟩⟩
        show R (V.int (_ % (n : Int))) _
        generalize (_ : Int) / 7 = q
        obtain ⟨r, er⟩ : ∃ r : Nat, q % (n : Int) = (r : Int) := ⟨(q % (n : Int)).toNat, (Int.toNat_of_nonneg (Int.emod_nonneg _ (by omega))).symm⟩
        rw [er]
        refine k _ r s1 ⟨x, y, z, cs, hb, hc, nbc, x0, y0, y1, z0, cs0, cl⟩ ?_
        have := Int.emod_lt_of_pos q (b := (n : Int)) (by omega)
        omega
end
end Es
set_option Elab.async false
set_option linter.all false
set_option maxRecDepth 100000
set_option maxHeartbeats 4000000
namespace Es
open PySem PySem.Spec PyProof.Rows L2
section
variable {P : Program} {w : World} {K : PySem.W.Frag} {mg : Str → Option Value} {base : Heap}
theorem ok_law_some {f : Addr} {fd : FuncData} (F : Fun K "_law_some" "_law_some" s_law_some f fd) (T : Txt mg) (c_law_take : CalleeOf P w K mg base 1 "_law_take" ["bag", "many"] (sp_law_take K)) : FnG P w K mg base 2 f fd ["bag", "things"] (sp_law_some K) := by
  refine okG F sc_law_some (fun h => ?_) (fun cdv B out t0 G ys R E hr hg h => ?_)
  · obtain ⟨b, c, l, xs, rfl, _⟩ := h
    rfl
  · obtain ⟨b, c, l, xs, rfl, hB, nlb, hl, h0, h1, k⟩ := h
    refine ⟨_, (pss_one
        (ps_ret (pe_ix ix_seq (pv 1) (pe_callC c_law_take (hr.mono (by decide)) hg (by rfl) (pa_cons (pv 0) (pa_cons (pe_callB call_len_seq (by rfl) T.z_len (by decide +kernel) (pa_cons (pv 1) pa_nil)) pa_nil))) (fun _ _ => rfl)))), ?_⟩
    refine ⟨_, rfl, _, rfl, _, rfl, l, xs, rfl, hl, b, c, xs.length, rfl, hB, h0, h1, fun H1 r s1 B1 hr1 => ?_⟩
    have e : xs[r]? = some xs[r] := List.getElem?_eq_getElem hr1
    have q := k H1 r xs[r] s1 B1 e
    rcases hl with hl | hl
    · exact .inl ⟨l, xs, r, xs[r], rfl, rfl, sqL_but nlb s1 hl, atI_nat e, q⟩
    · exact .inr (.inl ⟨l, xs, r, xs[r], rfl, rfl, sqT_bag hB s1 hl, atI_nat e, q⟩)
end
end Es
set_option Elab.async false
set_option linter.all false
set_option maxRecDepth 100000
set_option maxHeartbeats 4000000
namespace Es
open PySem PySem.Spec PyProof.Rows L2
section
variable {P : Program} {w : World} {K : PySem.W.Frag} {mg : Str → Option Value} {base : Heap}
theorem ok_law_row {f : Addr} {fd : FuncData} (F : Fun K "_law_row" "_law_row" s_law_row f fd) (T : Txt mg)  : FnG P w K mg base 1 f fd ["mask"] (sp_law_row K) := by
  refine okG F sc_law_row (fun h => ?_) (fun cdv B out t0 G ys R E hr hg h => ?_)
  · obtain ⟨m, rfl, _⟩ := h
    rfl
  · obtain ⟨m, rfl, hm, k⟩ := h
    refine ⟨_, (pss_one
        (ps_ret (pe_callTy call_tuple_of (by rfl) T.z_tuple (by decide +kernel) (pa_cons (pe_lc (own := [("unknown", 1)]) rfl sc_law_row.nd (pi_range1 (by rfl) T.z_range (pa_cons (pe_bits (pv 0)) pa_nil)) (blkOk_by (own := [("unknown", 1)]) (N := ["mask", "unknown"]) (sc := defScope s_law_row) (by decide +kernel)) (fun _ _ _ _ _ => (pg_name (i := 1) sc_law_row.nd rfl (.inl rfl))) (fun _ _ _ _ _ => (pts_one (pt_cmpR op_eq (pe_op op_and (pe_op op_shr (pv 0) (pv 1)) pe_int) pe_int (nomark _)))) (fun _ _ _ _ _ => (pv 1))) pa_nil)))), ?_⟩
    have hb : Builtin.Int.intBits (m : Int) ≤ 63 := intBits_le (by omega)
    refine ⟨_, rfl, _, rfl, _, rfl, by omega, by omega, fun D hD => ?_⟩
    refine lc_range (lo := 0) (n := Builtin.Int.intBits (m : Int)) (fun i H => ∃ acc : List Nat, H D = some (.lst (iv acc)) ∧ Same G H ∧ acc.length ≤ i ∧ acc = (List.range i).filter fun j => m.testBit j)
      ⟨[], upd_same, same_new hD, Nat.le_refl _, rfl⟩ ?_ ?_
    · rintro i H hi ⟨acc, ea, sa, la, eacc⟩
      have e0 : (0 : Int) + (i : Int) = (i : Int) := Int.zero_add _
      rw [e0]
      refine ⟨rfl, _, rfl, _, rfl, _, _, rfl, rfl, Int.natCast_nonneg _, _, _, rfl, rfl, rfl, _, rfl, ?_⟩
      have nx : (List.range (i + 1)).filter (fun j => m.testBit j) = acc ++ (if m.testBit i = true then [i] else []) := by
        rw [List.range_succ, List.filter_append, ← eacc]
        congr 1
        cases q : m.testBit i <;> simp [q]
      have sa1 := shr_and m i
      refine ite2 (fun hc => ?_) (fun hc => ?_)
      · have q : m.testBit i = true := by
          cases q : m.testBit i with
          | true => rfl
          | false =>
            rw [q, if_neg Bool.false_ne_true] at sa1
            have z := V.int.inj (of_decide_eq_true hc)
            rw [sa1] at z
            cases z
        refine ⟨_, rfl, iv acc, ea, ?_, acc ++ [i], ?_, same_mut sa hD, by simp; omega, ?_⟩
        · rw [iv_len]
          exact small1000 (by omega)
        · rw [upd_same]
          simp [iv]
        · rw [nx, q, if_pos rfl]
      · have q : m.testBit i = false := by
          cases q : m.testBit i with
          | false => rfl
          | true =>
            rw [q, if_pos rfl] at sa1
            exact absurd (decide_eq_true (congrArg V.int sa1)) hc
        exact ⟨acc, ea, sa, by omega, by rw [nx, q, if_neg Bool.false_ne_true, List.append_nil]⟩
    · rintro H ⟨acc, ea, sa, la, eacc⟩
      have e : acc = bts m := by
        refine bts_of (eacc ▸ List.Pairwise.filter _ List.pairwise_lt_range) fun u => ?_
        rw [eacc, List.mem_filter, List.mem_range]
        constructor
        · rintro ⟨h1, h2⟩
          exact ⟨by omega, h2⟩
        · rintro ⟨h1, h2⟩
          refine ⟨?_, h2⟩
          refine Nat.lt_of_not_le fun z => ?_
          have : m < 2 ^ u := by
            refine Nat.lt_of_lt_of_le ?_ (Nat.pow_le_pow_right (by decide) z)
            exact lt_bits m
          rw [Nat.testBit_lt_two_pow this] at h2
          cases h2
      refine ⟨D, _, rfl, .inl ⟨.inl (.inl ea), fun p np => ?_⟩⟩
      rw [e]
      exact k _ p (sa.trans (same_new np)) (sa.free np) upd_same
end
end Es
set_option Elab.async false
set_option linter.all false
set_option maxRecDepth 100000
set_option maxHeartbeats 4000000
namespace Es
open PySem PySem.Spec PyProof.Rows L2
section
variable {P : Program} {w : World} {K : PySem.W.Frag} {mg : Str → Option Value} {base : Heap}
theorem ok_law_any_row {f : Addr} {fd : FuncData} (F : Fun K "_law_any_row" "_law_any_row" s_law_any_row f fd) (T : Txt mg) (c_law_some : CalleeOf P w K mg base 2 "_law_some" ["bag", "things"] (sp_law_some K)) (c_law_take : CalleeOf P w K mg base 1 "_law_take" ["bag", "many"] (sp_law_take K)) (c_law_row : CalleeOf P w K mg base 1 "_law_row" ["mask"] (sp_law_row K)) : FnG P w K mg base 3 f fd ["bag", "many"] (sp_law_any_row K) := by
  refine okG F sc_law_any_row (fun h => ?_) (fun cdv B out t0 G ys R E hr hg h => ?_)
  · obtain ⟨b, c, n, rfl, _⟩ := h
    rfl
  · obtain ⟨b, c, n, rfl, hB, n0, n62, k⟩ := h
    refine ⟨_, (pss_cons
        (ps_set (i := 2) sc_law_any_row.nd rfl (Or.inl rfl) pe_int)
        (pss_cons
        (ps_for PassesOwn.never rfl (pi_range1 (by rfl) T.z_range (pa_cons (pe_callC c_law_some (hr.mono (by decide)) hg (by rfl) (pa_cons (pv 0) (pa_cons (pe_lst (pa_cons pe_int (pa_cons pe_int (pa_cons pe_int (pa_cons pe_int (pa_cons (pv 1) pa_nil)))))) pa_nil))) pa_nil)) (pg_name (i := 3) sc_law_any_row.nd rfl (.inl rfl))
        (pss_one
          (ps_set (i := 2) sc_law_any_row.nd rfl (Or.inl rfl) (pe_op op_xor (pv 2) (pe_op op_shl pe_int (pe_callC c_law_take (hr.mono (by decide)) hg (by rfl) (pa_cons (pv 0) (pa_cons (pv 1) pa_nil))))))))
        (pss_one
        (ps_ret (pe_ifExp (pt_cmpR op_gt (pv 2) pe_int (nomark _)) (pe_callC c_law_row (hr.mono (by decide)) hg (by rfl) (pa_cons (pv 2) pa_nil)) (pe_tup (pa_cons (pe_callC c_law_take (hr.mono (by decide)) hg (by rfl) (pa_cons (pv 0) (pa_cons (pv 1) pa_nil))) pa_nil))))))), ?_⟩
    have p63 : 2 ^ n < 2 ^ 63 := Nat.pow_lt_pow_right (by decide) (by omega)
    obtain ⟨ys0, eb0⟩ := hB.lst
    refine ⟨_, rfl, _, rfl, (by show 5 ≤ sizeLine; decide), fun l nl => ?_⟩
    have sl := same_new (o := .lst [V.int 1, V.int 2, V.int 2, V.int 3, V.int (n : Int)]) nl
    refine ⟨b, c, l, _, rfl, hB.same sl, (ne_of_none eb0 nl).symm, .inl (.inl (.inl upd_same)), by show 0 < 5; decide, by show 5 < 1073741824; decide, fun H1 r v s1 B1 hv => ?_⟩
    obtain ⟨j, rfl, j0, j1⟩ : ∃ j : Int, v = .int j ∧ 0 ≤ j ∧ j ≤ 62 := by
      rcases r with _ | _ | _ | _ | _ | r
      · exact ⟨1, (Option.some.inj hv).symm, by decide, by decide⟩
      · exact ⟨2, (Option.some.inj hv).symm, by decide, by decide⟩
      · exact ⟨2, (Option.some.inj hv).symm, by decide, by decide⟩
      · exact ⟨3, (Option.some.inj hv).symm, by decide, by decide⟩
      · exact ⟨n, (Option.some.inj hv).symm, by omega, by omega⟩
      · simp at hv
    have sG := (But.same (b := b) sl).trans s1
    refine ⟨j, rfl, by omega, by omega, for_range (lo := 0) (n := j.toNat) (fun i σ H => ∃ m y3, σ = [some (.ref b), some (.int (n : Int)), some (.int ((m : Nat) : Int)), y3] ∧ But b G H ∧ BagAt K H b c ∧ m < 2 ^ n)
      ⟨0, none, rfl, sG, B1, Nat.two_pow_pos n⟩ ?_ ?_⟩
    · rintro i σ H hi ⟨m, y3, rfl, s2, B2, hm⟩
      refine ⟨_, rfl, _, rfl, _, rfl, b, c, n, rfl, B2, n0, by omega, fun H2 r2 s3 B3 h3 => ?_⟩
      refine ⟨_, _, rfl, rfl, ⟨by omega, by omega, by decide⟩, _, _, rfl, rfl, ?_⟩
      refine ⟨m ^^^ 2 ^ r2, some (V.int (0 + (i : Int))), ?_, s2.trans s3, B3, Nat.xor_lt_two_pow hm (Nat.pow_lt_pow_right (by decide) h3)⟩
      show [some (V.ref b), some (V.int (n : Int)), some (V.int (Builtin.bitXor (m : Int) (1 * 2 ^ ((r2 : Int).toNat)))), _] = _
      rw [shl_one, xor_nat]
    · rintro σ H ⟨m, y3, rfl, s2, B2, hm⟩
      refine ⟨_, rfl, _, _, rfl, rfl, _, rfl, ite2 (fun hc => ?_) (fun hc => ?_)⟩
      · have hc := of_decide_eq_true hc
        refine ⟨_, rfl, m, rfl, Nat.lt_trans hm p63, fun H2 p s3 np ep => ?_⟩
        exact k _ _ m (s2.trans (But.same s3)) (B2.same s3) ⟨p, rfl, .inl (.inl ep)⟩ hm (by omega)
      · refine ⟨_, rfl, _, rfl, b, c, n, rfl, B2, n0, by omega, fun H2 r2 s3 B3 h3 => ?_⟩
        refine ⟨(by show 1 ≤ sizeLine; decide), fun t nt => ?_⟩
        have st := same_new (o := .tup [V.int (r2 : Int)]) nt
        refine k _ _ (2 ^ r2) ((s2.trans s3).trans (But.same st)) (B3.same st) ⟨t, rfl, .inl (.inl ?_)⟩ (Nat.pow_lt_pow_right (by decide) h3) (Nat.ne_of_gt (Nat.two_pow_pos _))
        rw [bts_pow (by omega)]
        exact upd_same
end
end Es
set_option Elab.async false
set_option linter.all false
set_option maxRecDepth 100000
set_option maxHeartbeats 4000000
namespace Es
open PySem PySem.Spec PyProof.Rows L2
section
variable {P : Program} {w : World} {K : PySem.W.Frag} {mg : Str → Option Value} {base : Heap}
theorem ok_law_worth {f : Addr} {fd : FuncData} (F : Fun K "_law_worth" "_law_worth" s_law_worth f fd) (T : Txt mg)  : FnG P w K mg base 1 f fd ["row", "bits"] (sp_law_worthS K) := by
  refine okG F sc_law_worth (fun h => ?_) (fun cdv B out t0 G ys R E hr hg h => ?_)
  · obtain ⟨v, b, m, bs, rfl, _⟩ := h
    rfl
  · obtain ⟨v, b, m, bs, rfl, ⟨p, rfl, hp⟩, hb, hlt, k⟩ := h
    refine ⟨_, (pss_one
        (ps_ret (pe_op op_mod (pe_callTy call_int1 (by rfl) T.z_int (by decide +kernel) (pa_cons (pe_callB (cr_sum rfl) (by rfl) T.z_sum (by decide +kernel) (pa_cons (pe_lc (own := [("unknown", 2)]) rfl sc_law_worth.nd (pi_tup (pv 0)) (blkOk_by (own := [("unknown", 2)]) (N := ["row", "bits", "unknown"]) (sc := defScope s_law_worth) (by decide +kernel)) (fun _ _ _ _ _ => (pg_name (i := 2) sc_law_worth.nd rfl (.inl rfl))) (fun _ _ _ _ _ => pts_nil) (fun _ _ _ _ _ => (pe_ix (r := rIx K) ix_seq (pv 1) (pv 2) (fun _ _ => rfl)))) pa_nil)) pa_nil)) pe_int))), ?_⟩
    refine ⟨_, rfl, p, rfl, ⟨_, hp⟩, fun D hD => ?_⟩
    refine lc_tup (K := K) (a := p) (xs := iv (bts m)) (fun i H => H D = some (.lst (iv (((bts m).take i).map fun u => bs.getD u 0))) ∧ Same G H) ⟨upd_same, same_new hD⟩ (fun i H _ h => sqT_same h.2 hp) ?_ ?_
    · rintro i x H hi ⟨ea, sa⟩
      obtain ⟨u, hu1, rfl⟩ := iv_get hi
      have hil := (List.getElem?_eq_some_iff.mp hu1).1
      have hu2 := hlt u (List.mem_of_getElem? hu1)
      have at1 : (iv bs)[u]? = some (.int ((bs.getD u 0 : Nat) : Int)) := by
        unfold iv
        rw [List.getElem?_map, List.getElem?_eq_getElem hu2, List.getD_eq_getElem?_getD, List.getElem?_eq_getElem hu2]
        rfl
      have fin : ∃ acc, H D = some (.lst acc) ∧ acc.length < sizeLine ∧ (upd H D (.lst (acc ++ [V.int ((bs.getD u 0 : Nat) : Int)])) D = some (.lst (iv (((bts m).take (i + 1)).map fun u => bs.getD u 0))) ∧ Same G (upd H D (.lst (acc ++ [V.int ((bs.getD u 0 : Nat) : Int)])))) := by
        refine ⟨iv (((bts m).take i).map fun u => bs.getD u 0), ea, ?_, ?_, same_mut sa hD⟩
        · rw [iv_len, List.length_map, List.length_take]
          have := bts_len m
          exact small1000 (by omega)
        · rw [upd_same, List.take_succ_eq_append_getElem hil, (List.getElem?_eq_some_iff.mp hu1).2]
          simp [iv]
      refine ⟨rfl, _, rfl, _, rfl, ?_⟩
      rcases hb with hb | hb
      · exact .inl ⟨b, _, _, _, rfl, rfl, sa.seq hb, atI_nat at1, fin⟩
      · exact .inr (.inl ⟨b, _, _, _, rfl, rfl, sqT_same sa hb, atI_nat at1, fin⟩)
    · rintro H ⟨ea, sa⟩
      rw [iv_len, List.take_length, iv_ints] at ea
      refine ⟨D, _, rfl, .inl (.inl ea), .inl ⟨_, rfl, _, _, rfl, rfl, (by show (0 : Int) < 2; decide), ?_⟩⟩
      rw [sum_nat]
      exact k H sa
end
end Es
set_option Elab.async false
set_option linter.all false
set_option maxRecDepth 100000
set_option maxHeartbeats 4000000
namespace Es
open PySem PySem.Spec PyProof.Rows L2
section
variable {P : Program} {w : World} {K : PySem.W.Frag} {mg : Str → Option Value} {base : Heap}
theorem ok_law_mask {f : Addr} {fd : FuncData} (F : Fun K "_law_mask" "_law_mask" s_law_mask f fd) (T : Txt mg)  : FnG P w K mg base 1 f fd ["row"] (sp_law_mask K) := by
  refine okG F sc_law_mask (fun h => ?_) (fun cdv B out t0 G ys R E hr hg h => ?_)
  · obtain ⟨v, m, rfl, _⟩ := h
    rfl
  · obtain ⟨v, m, rfl, ⟨p, rfl, hp⟩, hm, k⟩ := h
    refine ⟨_, (pss_cons
        (ps_set (i := 1) sc_law_mask.nd rfl (Or.inl rfl) pe_int)
        (pss_cons
        (ps_for PassesOwn.never rfl (pi_tup (pv 0)) (pg_name (i := 2) sc_law_mask.nd rfl (.inl rfl))
        (pss_one
          (ps_set (i := 1) sc_law_mask.nd rfl (Or.inl rfl) (pe_op op_or (pv 1) (pe_op op_shl pe_int (pv 2))))))
        (pss_one
        (ps_ret (pv 1))))), ?_⟩
    refine ⟨_, rfl, p, rfl, ⟨_, hp⟩, for_tup (K := K) (a := p) (xs := iv (bts m)) (fun i σ H => ∃ y2, σ = [some (.ref p), some (.int ((msk ((bts m).take i) : Nat) : Int)), y2] ∧ H = G)
      ⟨none, rfl, rfl⟩ (fun i σ H _ ⟨_, _, e⟩ => e ▸ hp) ?_ ?_⟩
    · rintro i x σ H hi ⟨y2, rfl, rfl⟩
      obtain ⟨u, hu1, rfl⟩ := iv_get hi
      have hum := mem_bts.mp (List.mem_of_getElem? hu1)
      refine ⟨_, rfl, _, rfl, _, _, rfl, rfl, ⟨by omega, by omega, by decide⟩, _, _, rfl, rfl, ?_⟩
      refine ⟨some (.int (u : Int)), ?_, rfl⟩
      show [some (V.ref p), some (V.int (Builtin.bitOr _ (1 * 2 ^ ((u : Int).toNat)))), some (V.int (u : Int))] = _
      rw [shl_one, or_nat, msk_take hu1]
      have dis : (msk ((bts m).take i)) ||| 2 ^ u = (msk ((bts m).take i)) ^^^ 2 ^ u := by
        refine Nat.eq_of_testBit_eq fun j => ?_
        rw [Nat.testBit_or, Nat.testBit_xor]
        by_cases e : j = u
        · subst e
          have nm : j ∉ (bts m).take i := by
            intro z
            obtain ⟨i2, h2, e2⟩ := List.mem_iff_getElem.mp z
            rw [List.getElem_take] at e2
            have h3 : i2 < i := by
              rw [List.length_take] at h2
              omega
            obtain ⟨h4, e4⟩ := List.getElem?_eq_some_iff.mp hu1
            have h5 : i2 < (bts m).length := by omega
            have := (List.getElem_inj (bts_nodup m)).mp (show (bts m)[i2]'h5 = (bts m)[i]'h4 from e2.trans e4.symm)
            omega
          rw [msk_bit ((bts_nodup m).sublist (List.take_sublist _ _)), decide_eq_false nm, Nat.testBit_two_pow_self]
          rfl
        · rw [Nat.testBit_two_pow_of_ne (Ne.symm e), Bool.or_false]
          cases (msk ((bts m).take i)).testBit j <;> rfl
      rw [dis]
    · rintro σ H ⟨y2, rfl, rfl⟩
      rw [iv_len, List.take_length, msk_bts hm]
      exact ⟨_, rfl, k⟩
end
end Es
set_option Elab.async false
set_option linter.all false
set_option maxRecDepth 100000
set_option maxHeartbeats 4000000
namespace Es
open PySem PySem.Spec PyProof.Rows L2
section
variable {P : Program} {w : World} {K : PySem.W.Frag} {mg : Str → Option Value} {base : Heap}
theorem ok_law_flat_of {f : Addr} {fd : FuncData} (F : Fun K "_law_flat_of" "_law_flat_of" s_law_flat_of f fd) (T : Txt mg) (c_law_mask : CalleeOf P w K mg base 1 "_law_mask" ["row"] (sp_law_mask K)) (c_law_row : CalleeOf P w K mg base 1 "_law_row" ["mask"] (sp_law_row K)) : FnG P w K mg base 2 f fd ["lines"] (sp_flat_of K) := by
  refine okG F sc_law_flat_of (fun h => ?_) (fun cdv B out t0 G ys R E hr hg h => ?_)
  · obtain ⟨a, us, ls, rfl, _⟩ := h
    rfl
  · obtain ⟨a, us, ls, rfl, hS, hP, hl2, kk⟩ := h
    have hm : ∀ l ∈ ls, l.1 < 2 ^ 63 := fun l h => (hl2 l h).1
    have kN : lflat ls = none → ∀ H', Same G H' → R .non H' := fun e H' s => kk _ _ s (by rw [e]; rfl)
    have hu := hu_of hr
    refine ⟨_, (pss_cons
        (ps_set (i := 1) sc_law_flat_of.nd rfl (Or.inr rfl) pe_dnewK)
        (pss_cons
        (ps_for PassesOwn.never rfl (pi_list (pv 0)) (pg_tup (by rfl) (pgs_cons (pg_name (i := 2) sc_law_flat_of.nd rfl (.inl rfl)) (pgs_cons (pg_name (i := 3) sc_law_flat_of.nd rfl (.inl rfl)) pgs_nil)))
        (pss_cons
          (ps_set (i := 4) sc_law_flat_of.nd rfl (Or.inl rfl) (pe_callC c_law_mask (hr.mono (by decide)) hg (by rfl) (pa_cons (pv 2) pa_nil)))
          (pss_cons
          (ps_for PassesOwn.never rfl (pi_list (pe_callB (call_sortedDI rfl) (by rfl) T.z_sorted (by decide +kernel) (pa_cons (pv 1) pa_nil))) (pg_name (i := 5) sc_law_flat_of.nd rfl (.inl rfl))
          (pss_one
            (ps_if (pt_cmpR op_eq (pe_op op_and (pe_op op_shr (pv 4) (pv 5)) pe_int) pe_int (nomark _))
            (pss_one
              (ps_par (i := 4) (j := 3) rfl sc_law_flat_of.nd rfl rfl (by decide) rfl rfl (pa_cons (pe_op op_xor (pv 4) (pe_ix ix_tup (pe_dget hu (pv 1) (pv 5) (fun _ _ => rfl)) pe_int (fun _ _ => rfl))) (pa_cons (pe_op op_xor (pv 3) (pe_ix ix_tup (pe_dget hu (pv 1) (pv 5) (fun _ _ => rfl)) pe_int (fun _ _ => rfl))) pa_nil)) (by rfl)))
            pss_nil)))
          (pss_cons
          (ps_if (PW.pt (pw_and (pt_cmpR op_eq (pv 4) pe_int (nomark _)) (pw_and1 (pt_cmpR op_eq (pv 3) pe_int (nomark _)))))
          (pss_one
            (ps_ret pe_non))
          pss_nil)
          (pss_one
          (ps_if (pt_cmpR op_gt (pv 4) pe_int (nomark _))
          (pss_cons
            (ps_set (i := 6) sc_law_flat_of.nd rfl (Or.inl rfl) (pe_op op_sub (pe_bits (pe_op op_and (pv 4) (pe_un un_neg (pv 4)))) pe_int))
            (pss_cons
            (ps_for PassesOwn.never rfl (pi_list (pe_callB (call_sortedDI rfl) (by rfl) T.z_sorted (by decide +kernel) (pa_cons (pv 1) pa_nil))) (pg_name (i := 5) sc_law_flat_of.nd rfl (.inl rfl))
            (pss_one
              (ps_if (pt_cmpR op_eq (pe_op op_and (pe_op op_shr (pe_ix ix_tup (pe_dget hu (pv 1) (pv 5) (fun _ _ => rfl)) pe_int (fun _ _ => rfl)) (pv 6)) pe_int) pe_int (nomark _))
              (pss_one
                (ps_dput hu (pv 1) (pv 5) (pe_tup (pa_cons (pe_op op_xor (pe_ix ix_tup (pe_dget hu (pv 1) (pv 5) (fun _ _ => rfl)) pe_int (fun _ _ => rfl)) (pv 4)) (pa_cons (pe_op op_xor (pe_ix ix_tup (pe_dget hu (pv 1) (pv 5) (fun _ _ => rfl)) pe_int (fun _ _ => rfl)) (pv 3)) pa_nil))) rfl))
              pss_nil)))
            (pss_one
            (ps_dput hu (pv 1) (pv 6) (pe_tup (pa_cons (pv 4) (pa_cons (pv 3) pa_nil))) rfl))))
          pss_nil))))))
        (pss_one
        (ps_ret (pe_callTy call_tuple_of (by rfl) T.z_tuple (by decide +kernel) (pa_cons (pe_callB (cr_sortedData hr.units) (by rfl) T.z_sorted (by decide +kernel) (pa_cons (pe_lc (own := [("head", 5)]) rfl sc_law_flat_of.nd (pi_list (pe_callB (call_sortedDI rfl) (by rfl) T.z_sorted (by decide +kernel) (pa_cons (pv 1) pa_nil))) (blkOk_by (own := [("head", 5)]) (N := ["lines", "heads", "row", "bit", "mask", "head", "at"]) (sc := defScope s_law_flat_of) (by decide +kernel)) (fun _ _ _ _ _ => (pg_name (i := 5) sc_law_flat_of.nd rfl (.inl rfl))) (fun _ _ _ _ _ => pts_nil) (fun _ _ _ _ _ => (pe_tup (pa_cons (pe_callC c_law_row (hr.mono (by decide)) hg (by rfl) (pa_cons (pe_ix (r := rIxT K) ix_tup (pe_dget hu (pv 1) (pv 5) (fun _ _ => rfl)) pe_int (fun _ _ => rfl)) pa_nil)) (pa_cons (pe_ix (r := rIxT K) ix_tup (pe_dget hu (pv 1) (pv 5) (fun _ _ => rfl)) pe_int (fun _ _ => rfl)) pa_nil))))) pa_nil)) pa_nil)))))), ?_⟩
    intro d nd0
    have lenP : us.length = ls.length := Paired.len hP
    have hm' : ∀ i, ∀ l ∈ ls.take i, l.1 < 2 ^ 63 := fun i l hx => hm l (List.mem_of_mem_take hx)
    refine ⟨_, rfl, a, rfl, ⟨us, (same_new nd0).seq hS⟩, for_list (K := K) (a := a) (xs := us)
      (fun i σ H2 => ∃ kvs hs y2 y3 y4 y5 y6, σ = [some (.ref a), some (.ref d), y2, y3, y4, y5, y6] ∧ Same G H2 ∧ H2 d = some (.dK kvs) ∧ DictR (PairI K H2) kvs hs ∧ lflat (ls.take i) = some hs)
      ⟨[], [], none, none, none, none, none, rfl, same_new nd0, upd_same, .nil, rfl⟩ (fun i σ H2 _ ⟨_, _, _, _, _, _, _, _, s2, _⟩ => s2.seq hS) ?_ ?_⟩
    · rintro i x σ H2 hi ⟨kvs, hs, y2, y3, y4, y5, y6, rfl, s2, ed, DR, el⟩
      obtain ⟨⟨m, b⟩, hli, ⟨t, r, rfl, ht, hrm⟩⟩ := Paired.get hP hi
      have hmm : m < 2 ^ 63 := hm _ (List.mem_of_getElem? hli)
      have R := lflat_red _ (hm' i) hs el
      have h63 : ∀ e ∈ hs, e.1 < 63 := fun e he => (R.own e he).1
      have len63 : hs.length ≤ 63 := by
        have := dictM_len (kvs := (hs.map (·.1)).map fun (u : Nat) => ((Sum.inl (u : Int) : Key), V.bl true)) (m := msk (hs.map (·.1))) ⟨hs.map (·.1), rfl, R.nd, fun u => by
          rw [msk_bit R.nd, decide_eq_true_eq]
          constructor
          · intro h
            obtain ⟨e, he, z⟩ := List.mem_map.mp h
            exact ⟨z ▸ h63 e he, h⟩
          · exact fun h => h.2⟩
        simpa using this
      have next := lflat_take hli
      rw [el] at next
      have next : lflat (ls.take (i + 1)) = lstep hs (m, b) := next
      refine ⟨t, [r, .int (b : Int)], rfl, sqT_same s2 ht, rfl, r, [.int (b : Int)], rfl, _, [], rfl, rfl, ?_⟩
      refine ⟨_, rfl, r, m, rfl, hrm.same s2, hmm, ?_⟩
      obtain ⟨k1, k2⟩ := DR.sorted R.nd h63
      refine ⟨_, rfl, d, kvs, _, rfl, .inl ed, DR.keys, k1, fun ys p hp hsd np => ?_⟩
      rw [k2 ys hp hsd]
      have sp0 := same_new (o := .lst (iv (srt (hs.map (·.1))))) np
      refine ⟨p, rfl, ⟨_, .inl (.inl upd_same)⟩, for_list (K := K) (a := p) (xs := iv (srt (hs.map (·.1))))
        (fun j σ H3 => ∃ y5, σ = [some (.ref a), some (.ref d), some r, some (.int ((((srt (hs.map (·.1))).take j).foldl (lred1 hs) (m, b)).2 : Int)), some (.int ((((srt (hs.map (·.1))).take j).foldl (lred1 hs) (m, b)).1 : Int)), y5, y6] ∧
          Same (upd H2 p (.lst (iv (srt (hs.map (·.1)))))) H3)
        ⟨y5, rfl, Same.refl _⟩ (fun j σ H3 _ ⟨_, _, s3⟩ => .inl (.inl (s3 _ _ upd_same))) ?_ ?_⟩
      · rintro j y σ H3 hj ⟨y5, rfl, s3⟩
        obtain ⟨h, hh1, rfl⟩ := iv_get hj
        have hjl := (List.getElem?_eq_some_iff.mp hh1).1
        have hin := (mem_srt.mp (List.mem_of_getElem? hh1)).2
        have s23 := sp0.trans s3
        have fold1 : ((srt (hs.map (·.1))).take (j + 1)).foldl (lred1 hs) (m, b) = lred1 hs (((srt (hs.map (·.1))).take j).foldl (lred1 hs) (m, b)) h := by
          rw [List.take_succ_eq_append_getElem hjl, List.foldl_append, (List.getElem?_eq_some_iff.mp hh1).2]
          rfl
        rw [fold1]
        generalize ((srt (hs.map (·.1))).take j).foldl (lred1 hs) (m, b) = pr
        refine ⟨_, rfl, _, rfl, _, _, rfl, rfl, Int.natCast_nonneg _, _, _, rfl, rfl, rfl, _, rfl, ?_⟩
        have sa1 := shr_and pr.1 h
        refine ite2 (fun hc => ?_) (fun hc => ?_)
        · have q : pr.1.testBit h = true := by
            cases q : pr.1.testBit h with
            | true => rfl
            | false =>
              rw [q, if_neg Bool.false_ne_true] at sa1
              have z := V.int.inj (of_decide_eq_true hc)
              rw [sa1] at z
              cases z
          cases lk : look hs h with
          | none => exact absurd hin (look_none.mp lk)
          | some e =>
            have l1 : lred1 hs pr h = (pr.1 ^^^ e.1, pr.2 ^^^ e.2) := by
              unfold lred1
              rw [if_pos q, lk]
            obtain ⟨v, ev, ⟨tv, rfl, htv⟩⟩ := (DR.val (h := h)).2 e lk
            have g1 : DGet H3 d (.int (h : Int)) (some (.ref tv)) := by rw [← ev]; exact DGet.k (k := Sum.inl (h : Int)) (s23 _ _ ed)
            refine ⟨_, rfl, _, rfl, _, rfl, d, _, rfl, g1, tv, _, 0, _, rfl, rfl, sqT_same s23 htv, atI_nat (j := 0) rfl, _, _, rfl, rfl, ?_⟩
            refine ⟨_, rfl, _, rfl, _, rfl, d, _, rfl, g1, tv, _, 1, _, rfl, rfl, sqT_same s23 htv, atI_nat (j := 1) rfl, _, _, rfl, rfl, ?_⟩
            refine ⟨_, _, rfl, some (V.int (h : Int)), ?_, s3⟩
            rw [l1]
            show [some (V.ref a), some (V.ref d), some r, some (V.int (Builtin.bitXor (pr.2 : Int) (e.2 : Int))), some (V.int (Builtin.bitXor (pr.1 : Int) (e.1 : Int))), some (V.int (h : Int)), y6] = _
            rw [xor_nat, xor_nat]
        · have q : pr.1.testBit h = false := by
            cases q : pr.1.testBit h with
            | false => rfl
            | true =>
              rw [q, if_pos rfl] at sa1
              exact absurd (decide_eq_true (congrArg V.int sa1)) hc
          have l1 : lred1 hs pr h = pr := by
            unfold lred1
            rw [if_neg (by rw [q]; exact Bool.false_ne_true)]
          rw [l1]
          exact ⟨_, rfl, s3⟩
      · rintro σ H3 ⟨y5, rfl, s3⟩
        rw [iv_len, List.take_length]
        have s23 := sp0.trans s3
        obtain ⟨r1, _, r3⟩ := lred_spec R (p := (m, b)) hmm
        have er : (srt (hs.map (·.1))).foldl (lred1 hs) (m, b) = lred hs (m, b) := rfl
        rw [er]
        unfold lstep at next
        generalize lred hs (m, b) = pr at r1 r3 next er ⊢
        refine ⟨_, rfl, rfl, _, rfl, ?_⟩
        cases lw : low pr.1 with
        | none =>
          rw [lw] at next
          have z0 := (low_none r1).mp lw
          refine ite2 (fun _ => ?_) (fun hc => ?_)
          · refine ⟨_, rfl, rfl, _, rfl, ite2 (fun hc => ?_) (fun hc => ?_)⟩
            · have b1 : pr.2 = 1 := by
                have z := V.int.inj (of_decide_eq_true hc)
                omega
              have nn : lflat ls = none := by
                refine lflat_none_take (i := i + 1) ?_
                rw [next]
                simp [b1]
              exact kN nn _ (s2.trans s23)
            ·
              refine ⟨_, rfl, _, _, rfl, rfl, _, rfl, ite2 (fun hc2 => ?_) (fun _ => ?_)⟩
              · have z := of_decide_eq_true hc2
                rw [z0] at z
                exact absurd z (by decide)
              · refine ⟨kvs, hs, _, _, _, _, _, rfl, s2.trans s23, s23 _ _ ed, DR.imp fun _ _ z => z.same s23, ?_⟩
                rw [next]
                have b1 : ¬ pr.2 = 1 := fun z => hc (by rw [z]; decide)
                simp [b1]
          · exact absurd (by rw [z0]; decide) hc
        | some at_ =>
          rw [lw] at next
          have nz : pr.1 ≠ 0 := fun z => by rw [z] at lw; cases lw
          have pos : 0 < pr.1 := Nat.pos_of_ne_zero nz
          refine ite2 (fun hc => ?_) (fun _ => ?_)
          · have z := V.int.inj (of_decide_eq_true hc)
            omega
          · refine iteF ?_
            refine ⟨_, rfl, _, _, rfl, rfl, _, rfl, ite2 (fun _ => ?_) (fun hc => ?_)⟩
            ·
              refine ⟨_, rfl, _, rfl, _, rfl, _, _, rfl, rfl, _, rfl, _, _, rfl, rfl, ?_⟩
              have eat : (Builtin.Int.intBits (Builtin.bitAnd (pr.1 : Int) (-(pr.1 : Int))) : Int) - 1 = (at_ : Int) := by
                rw [and_neg lw, bits_pow]
                omega
              show tSeq _ _ _ [some (V.ref a), some (V.ref d), some r, some (V.int (pr.2 : Int)), some (V.int (pr.1 : Int)), y5, some (V.int ((Builtin.Int.intBits (Builtin.bitAnd (pr.1 : Int) (-(pr.1 : Int))) : Int) - 1))] H3
              rw [eat]
              have ed3 := s23 _ _ ed
              have DR3 := DR.imp fun _ _ z => z.same s23
              refine ⟨_, rfl, d, kvs, _, rfl, .inl ed3, DR.keys, k1, fun ys2 p2 hp2 hsd2 np2 => ?_⟩
              rw [k2 ys2 hp2 hsd2]
              have sp2 := same_new (o := .lst (iv (srt (hs.map (·.1))))) np2
              have ne2 : p2 ≠ d := (ne_of_none ed3 np2).symm
              have sG3 := (s2.trans s23).trans sp2
              refine ⟨p2, rfl, ⟨_, .inl (.inl upd_same)⟩, for_list (K := K) (a := p2) (xs := iv (srt (hs.map (·.1))))
                (fun j σ H4 => ∃ kvs4 y5, σ = [some (.ref a), some (.ref d), some r, some (.int (pr.2 : Int)), some (.int (pr.1 : Int)), y5, some (.int (at_ : Int))] ∧ Same G H4 ∧ H4 p2 = some (.lst (iv (srt (hs.map (·.1))))) ∧
                  H4 d = some (.dK kvs4) ∧ DictR (PairI K H4) kvs4 (lputTo hs ((srt (hs.map (·.1))).take j) at_ pr))
                ⟨kvs, y5, rfl, sG3, upd_same, sp2 _ _ ed3, by rw [List.take_zero, lputTo_nil]; exact DR3.imp fun _ _ z => z.same sp2⟩ (fun j σ H4 _ ⟨_, _, _, _, e4, _⟩ => .inl (.inl e4)) ?_ ?_⟩
              · rintro j y σ H4 hj ⟨kvs4, y5, rfl, s4, ep4, ed4, DR4⟩
                obtain ⟨h, hh1, rfl⟩ := iv_get hj
                obtain ⟨hjl, ejl⟩ := List.getElem?_eq_some_iff.mp hh1
                have hin := (mem_srt.mp (List.mem_of_getElem? hh1)).2
                have hno : h ∉ (srt (hs.map (·.1))).take j := by
                  intro z
                  obtain ⟨i2, h2, e2⟩ := List.mem_iff_getElem.mp z
                  rw [List.getElem_take] at e2
                  have h3 : i2 < j := by
                    rw [List.length_take] at h2
                    omega
                  have ndS : (srt (hs.map (·.1))).Nodup := (srt_lt _).imp fun h => Nat.ne_of_lt h
                  have := (List.getElem_inj ndS).mp (show (srt (hs.map (·.1)))[i2]'(by omega) = (srt (hs.map (·.1)))[j]'hjl from e2.trans ejl.symm)
                  omega
                cases lk : look hs h with
                | none => exact absurd hin (look_none.mp lk)
                | some e =>
                  obtain ⟨g1, g2, g3⟩ := lputTo_step R.nd (S := (srt (hs.map (·.1))).take j) (a := at_) (p := pr) hno lk
                  have tk : (srt (hs.map (·.1))).take (j + 1) = (srt (hs.map (·.1))).take j ++ [h] := by rw [List.take_succ_eq_append_getElem hjl, ejl]
                  rw [tk]
                  obtain ⟨v, ev, ⟨tv, rfl, htv⟩⟩ := (DR4.val (h := h)).2 e g1
                  have gd : DGet H4 d (.int (h : Int)) (some (.ref tv)) := by rw [← ev]; exact DGet.k (k := Sum.inl (h : Int)) ed4
                  refine ⟨_, rfl, _, rfl, d, _, rfl, gd, tv, _, 0, _, rfl, rfl, htv, atI_nat (j := 0) rfl, _, rfl, _, _, rfl, rfl, Int.natCast_nonneg _, _, _, rfl, rfl, rfl, _, rfl, ?_⟩
                  have sa1 := shr_and e.1 at_
                  refine ite2 (fun hc => ?_) (fun hc => ?_)
                  · have q : e.1.testBit at_ = true := by
                      cases q : e.1.testBit at_ with
                      | true => rfl
                      | false =>
                        rw [q, if_neg Bool.false_ne_true] at sa1
                        have z := V.int.inj (of_decide_eq_true hc)
                        rw [sa1] at z
                        cases z
                    refine ⟨_, rfl, _, rfl, d, _, rfl, gd, tv, _, 0, _, rfl, rfl, htv, atI_nat (j := 0) rfl, _, rfl, _, _, rfl, rfl, ?_⟩
                    refine ⟨_, rfl, _, rfl, d, _, rfl, gd, tv, _, 1, _, rfl, rfl, htv, atI_nat (j := 1) rfl, _, rfl, _, _, rfl, rfl, ?_⟩
                    refine ⟨(by show 2 ≤ sizeLine; decide), fun t2 nt2 => ?_⟩
                    have st2 := same_new (o := .tup [V.int (Builtin.bitXor (e.1 : Int) (pr.1 : Int)), V.int (Builtin.bitXor (e.2 : Int) (pr.2 : Int))]) nt2
                    have len4 : kvs4.length ≤ 63 := by
                      have z := Paired.len DR4
                      have z2 : (lputTo hs ((srt (hs.map (·.1))).take j) at_ pr).length = hs.length := by unfold lputTo; rw [List.length_map]
                      omega
                    refine ⟨_, rfl, _, rfl, d, _, rfl, DPut.k (k := Sum.inl (h : Int)) (st2 _ _ ed4) (small1000 (by omega)), ?_⟩
                    have hPI : PairI K (upd H4 t2 (.tup [V.int (Builtin.bitXor (e.1 : Int) (pr.1 : Int)), V.int (Builtin.bitXor (e.2 : Int) (pr.2 : Int))])) (.ref t2) (e.1 ^^^ pr.1, e.2 ^^^ pr.2) := by
                      refine ⟨t2, rfl, .inl (.inl ?_)⟩
                      rw [upd_same, xor_nat, xor_nat]
                    have DR5 := DictR.set hPI (DR4.imp fun _ _ z => z.same st2) (h := h) (by rw [lputTo_keys]; exact hin)
                    rw [g2 q] at DR5
                    refine ⟨_, _, rfl, same_mut (s4.trans st2) nd0, ?_, upd_same, DR5.imp fun _ _ z => z.updK (st2 _ _ ed4)⟩
                    rw [upd_ne ne2]
                    exact st2 _ _ ep4
                  · have q : e.1.testBit at_ = false := by
                      cases q : e.1.testBit at_ with
                      | false => rfl
                      | true =>
                        rw [q, if_pos rfl] at sa1
                        exact absurd (decide_eq_true (congrArg V.int sa1)) hc
                    refine ⟨kvs4, _, rfl, s4, ep4, ed4, ?_⟩
                    rw [← g3 q]
                    exact DR4
              · rintro σ H4 ⟨kvs4, y5, rfl, s4, ep4, ed4, DR4⟩
                rw [iv_len, List.take_length] at DR4
                refine ⟨_, rfl, _, rfl, (by show 2 ≤ sizeLine; decide), fun t2 nt2 => ?_⟩
                have st2 := same_new (o := .tup [V.int (pr.1 : Int), V.int (pr.2 : Int)]) nt2
                have len4 : kvs4.length ≤ 63 := by
                  have z := Paired.len DR4
                  have z2 : (lputTo hs (srt (hs.map (·.1))) at_ pr).length = hs.length := by unfold lputTo; rw [List.length_map]
                  omega
                refine ⟨_, rfl, _, rfl, d, _, rfl, DPut.k (k := Sum.inl (at_ : Int)) (st2 _ _ ed4) (small1000 (by omega)), ?_⟩
                have hPI : PairI K (upd H4 t2 (.tup [V.int (pr.1 : Int), V.int (pr.2 : Int)])) (.ref t2) pr := ⟨t2, rfl, .inl (.inl upd_same)⟩
                have fresh : lookB (lputTo hs (srt (hs.map (·.1))) at_ pr) at_ = none := by
                  refine look_none.mpr ?_
                  rw [lputTo_keys]
                  intro z
                  have b2 := (low_iff.mp lw).2.1
                  rw [r3 at_ z] at b2
                  cases b2
                have DR5 := (DR4.imp fun _ _ z => z.same st2).put fresh hPI
                refine ⟨_, lput hs at_ pr, _, _, _, _, _, rfl, same_mut (s4.trans st2) nd0, upd_same, ?_, ?_⟩
                · rw [← lputTo_all hs h63]
                  exact DR5.imp fun _ _ z => z.updK (st2 _ _ ed4)
                · rw [next]
            · exact absurd (decide_eq_true (by show (0 : Int) < (pr.1 : Int); omega)) hc
    · rintro σ H2 ⟨kvs, hs, y2, y3, y4, y5, y6, rfl, s2, ed, DR, el⟩
      rw [lenP, List.take_length] at el
      have R := lflat_red _ hm hs el
      have h63 : ∀ e ∈ hs, e.1 < 63 := fun e he => (R.own e he).1
      obtain ⟨k1, k2⟩ := DR.sorted R.nd h63
      refine ⟨_, rfl, d, kvs, _, rfl, .inl ed, DR.keys, k1, fun ys p hp hsd np => ?_⟩
      rw [k2 ys hp hsd]
      have sp0 := same_new (o := .lst (iv (srt (hs.map (·.1))))) np
      have lenS : (srt (hs.map (·.1))).length = hs.length := by
        have z := congrArg List.length (k2 ys hp hsd)
        rw [List.length_map, iv_len, hp.length_eq, List.length_map] at z
        exact z.symm
      have F := lflat_flat ls hl2 hs el
      have eB : (byHead hs).length = (srt (hs.map (·.1))).length := by unfold byHead; rw [List.length_map]
      refine ⟨p, rfl, ⟨_, .inl (.inl upd_same)⟩, fun D hD => ?_⟩
      refine lc_list (K := K) (a := p) (xs := iv (srt (hs.map (·.1))))
        (fun j H3 => ∃ cs : List (V × (Nat × Nat)), H3 D = some (.lst (cs.map (·.1))) ∧ Same (upd H2 p (.lst (iv (srt (hs.map (·.1)))))) H3 ∧ (∀ c ∈ cs, LineV K H3 c.1 c.2) ∧ cs.map (·.2) = ((byHead hs).take j).map (·.2))
        ⟨[], upd_same, same_new hD, (fun x hx => by cases hx), rfl⟩ (fun j H3 _ ⟨_, _, s3, _⟩ => .inl (.inl (s3 _ _ upd_same))) ?_ ?_
      · rintro j y H3 hj ⟨cs, eD, s3, hb, lb⟩
        obtain ⟨h, hh1, rfl⟩ := iv_get hj
        have hjl := (List.getElem?_eq_some_iff.mp hh1).1
        have hin := (mem_srt.mp (List.mem_of_getElem? hh1)).2
        have s23 := sp0.trans s3
        cases lk : look hs h with
        | none => exact absurd hin (look_none.mp lk)
        | some e =>
          obtain ⟨v, ev, ⟨tv, rfl, htv⟩⟩ := (DR.val (h := h)).2 e lk
          have e63 : e.1 < 2 ^ 63 := (R.own _ (look_mem lk)).2.1
          have bj : (byHead hs)[j]? = some (h, e) := by
            unfold byHead
            rw [List.getElem?_map, hh1]
            show some (h, (look hs h).getD (0, 0)) = _
            rw [lk]
            rfl
          have bl := (List.getElem?_eq_some_iff.mp bj).1
          have g1 : ∀ H4, Same H3 H4 → DGet H4 d (.int (h : Int)) (some (.ref tv)) := fun H4 s4 => by rw [← ev]; exact DGet.k (k := Sum.inl (h : Int)) (s4 _ _ (s23 _ _ ed))
          refine ⟨rfl, _, rfl, _, rfl, d, _, rfl, g1 H3 (Same.refl _), tv, _, 0, _, rfl, rfl, sqT_same s23 htv, atI_nat (j := 0) rfl, e.1, rfl, e63, fun H4 q s4 nq eq => ?_⟩
          refine ⟨_, rfl, _, rfl, d, _, rfl, g1 H4 s4, tv, _, 1, _, rfl, rfl, sqT_same (s23.trans s4) htv, atI_nat (j := 1) rfl, (by show 2 ≤ sizeLine; decide), fun t nt => ?_⟩
          have st := s4.trans (same_new (o := .tup [V.ref q, V.int (e.2 : Int)]) nt)
          have eD5 := st _ _ eD
          have lc : cs.length = j := by
            have z := congrArg List.length lb
            rw [List.length_map, List.length_map, List.length_take] at z
            omega
          refine ⟨cs.map (·.1), eD5, (by rw [List.length_map]; have := canon_len hs; unfold canon at this; rw [List.length_map] at this; exact small1000 (by omega)), cs ++ [(.ref t, e)], ?_, same_mut (s3.trans st) hD, ?_, ?_⟩
          · rw [upd_same, List.map_append]
            rfl
          · intro x hx
            rcases List.mem_append.mp hx with hx | hx
            · exact LineV.but eD5 But.at_ ((hb x hx).same st)
            · have hx : x = (.ref t, e) := by simpa using hx
              subst hx
              have ht : (upd H4 t (.tup [V.ref q, V.int (e.2 : Int)])) t = some (.tup [V.ref q, V.int (e.2 : Int)]) := upd_same
              exact LineV.but eD5 But.at_ ⟨t, .ref q, rfl, .inl (.inl ht), q, rfl, .inl (.inl (same_new nt _ _ eq))⟩
          · rw [List.take_succ_eq_append_getElem bl, (List.getElem?_eq_some_iff.mp bj).2, List.map_append, List.map_append, lb]
            rfl
      · rintro H3 ⟨cs, eD, s3, hb, lb⟩
        rw [iv_len, ← eB, List.take_length] at lb
        have s23 := sp0.trans s3
        have pp : (cs.map (·.2)).Perm (hs.map (·.2)) := by
          rw [lb]
          exact (byHead_perm F.red).map (·.2)
        obtain ⟨f1, f2, f3, f4⟩ := sort_facts hb
        refine ⟨D, cs.map (fun c => (c.1, lineD c.2)), rfl, ?_, f1, f2, f3, f4, fun q nq => ?_⟩
        · rw [List.map_map]
          exact .inl (.inl eD)
        refine ⟨q, _, rfl, .inl ⟨.inl (.inl upd_same), fun t nt => ?_⟩⟩
        have st := (same_new nq).trans (same_new (o := .tup (((cs.map (fun c => ((c.1, lineD c.2) : V × PyData))).mergeSort (PySem.W.dataLe false (·.2))).map (·.1))) nt)
        refine kk _ _ ((s2.trans s23).trans st) ?_
        rw [el]
        exact ⟨t, _, rfl, .inl (.inl upd_same), lines_same st (sorted_lines F hb pp)⟩
end
end Es
set_option Elab.async false
set_option linter.all false
set_option maxRecDepth 100000
set_option maxHeartbeats 4000000
namespace Es
open PySem PySem.Spec PyProof.Rows L2
section
variable {P : Program} {w : World} {K : PySem.W.Frag} {mg : Str → Option Value} {base : Heap}
theorem ok_law_drawn_flat {f : Addr} {fd : FuncData} (F : Fun K "_law_drawn_flat" "_law_drawn_flat" s_law_drawn_flat f fd) (T : Txt mg) (c_law_take : CalleeOf P w K mg base 1 "_law_take" ["bag", "many"] (sp_law_take K)) (c_law_any_row : CalleeOf P w K mg base 3 "_law_any_row" ["bag", "many"] (sp_law_any_row K)) (c_law_worth : CalleeOf P w K mg base 1 "_law_worth" ["row", "bits"] (sp_law_worthL K)) (c_law_flat_of : CalleeOf P w K mg base 2 "_law_flat_of" ["lines"] (sp_flat_of K)) : FnG P w K mg base 4 f fd ["bag", "many", "most"] (sp_law_drawn_flat K) := by
  refine okG F sc_law_drawn_flat (fun h => ?_) (fun cdv B out t0 G ys R E hr hg h => ?_)
  · obtain ⟨b, c, n, k, rfl, _⟩ := h
    rfl
  · obtain ⟨b, c, n, k, rfl, hB, n62, k100, kk⟩ := h
    refine ⟨_, (pss_cons
        (ps_par (i := 3) (j := 4) rfl sc_law_drawn_flat.nd rfl rfl (by decide) rfl rfl (pa_cons (pe_lc (own := [("unknown", 5)]) rfl sc_law_drawn_flat.nd (pi_range1 (by rfl) T.z_range (pa_cons (pv 1) pa_nil)) (blkOk_by (own := [("unknown", 5)]) (N := ["bag", "many", "most", "bits", "lines", "unknown", "turn", "row"]) (sc := defScope s_law_drawn_flat) (by decide +kernel)) (fun _ _ _ _ _ => (pg_name (i := 5) sc_law_drawn_flat.nd rfl (.inl rfl))) (fun _ _ _ _ _ => pts_nil) (fun _ _ _ _ _ => (pe_callC c_law_take (hr.mono (by decide)) hg (by rfl) (pa_cons (pv 0) (pa_cons pe_int pa_nil))))) (pa_cons (pe_lst pa_nil) pa_nil)) (by rfl))
        (pss_cons
        (ps_for PassesOwn.never rfl (pi_range1 (by rfl) T.z_range (pa_cons (pe_via (pe_ifExp (pt_cmpR op_gt (pv 1) pe_int (nomark _)) (pe_callC c_law_take (hr.mono (by decide)) hg (by rfl) (pa_cons (pv 0) (pa_cons (pe_op op_add (pv 2) pe_int) pa_nil))) pe_int)) pa_nil)) (pg_name (i := 6) sc_law_drawn_flat.nd rfl (.inl rfl))
        (pss_cons
          (ps_set (i := 7) sc_law_drawn_flat.nd rfl (Or.inl rfl) (pe_callC c_law_any_row (hr.mono (by decide)) hg (by rfl) (pa_cons (pv 0) (pa_cons (pv 1) pa_nil))))
          (pss_one
          (ps_expr (pe_bm PySem.F.plainAttrs_list PySem.F.slot_list_append PySem.F.type_list_append mt_append (pv 4) (pa_cons (pe_tup (pa_cons (pv 7) (pa_cons (pe_callC c_law_worth (hr.mono (by decide)) hg (by rfl) (pa_cons (pv 7) (pa_cons (pv 3) pa_nil))) pa_nil))) pa_nil))))))
        (pss_one
        (ps_ret (pe_callC c_law_flat_of (hr.mono (by decide)) hg (by rfl) (pa_cons (pv 4) pa_nil)))))), ?_⟩
    refine ⟨_, rfl, (n : Int), rfl, by omega, by omega, fun D hD => ?_⟩
    obtain ⟨yg, eg⟩ := hB.lst
    have nDb : D ≠ b := (ne_of_none eg hD).symm
    refine lc_range (lo := 0) (n := n) (fun i H => ∃ acc : List Nat, H D = some (.lst (iv acc)) ∧ But b G H ∧ BagAt K H b c ∧ acc.length = i ∧ ∀ x ∈ acc, x < 2)
      ⟨[], upd_same, But.new hD, hB.same (same_new hD), rfl, (fun x hx => by cases hx)⟩ ?_ ?_
    · rintro i H hi ⟨acc, eD, s1, B1, la, a2⟩
      refine ⟨rfl, _, rfl, b, c, 2, rfl, B1, by decide, by decide, fun H2 r s2 B2 hr2 => ?_⟩
      refine ⟨iv acc, s2 D _ nDb eD, ?_, acc ++ [r], ?_, but_mut (s1.trans s2) hD, BagAt.mut hB hD B2, by simp [la], ?_⟩
      · rw [iv_len, la]
        exact small1000 (by omega)
      · rw [upd_same]
        simp [iv]
      · intro x hx
        rcases List.mem_append.mp hx with hx | hx
        · exact a2 x hx
        · have hx : x = r := by simpa using hx
          rw [hx]; exact hr2
    rintro H1 ⟨bs, eD, s1, B1, lbs, bs2⟩
    refine ⟨Nat.zero_le _, fun ll nll => ⟨_, _, rfl, ?_⟩⟩
    have ngl : G ll = none := by
      obtain ⟨y1, e1⟩ := B1.lst
      exact s1.free (fun z => by rw [z] at nll; rw [nll] at e1; cases e1) nll
    have nlb : ll ≠ b := fun z => by rw [z] at ngl; rw [ngl] at eg; cases eg
    have nlD : D ≠ ll := ne_of_none eD nll
    have holds : ∀ m, (∀ u ∈ bts m, u < bs.length) → holdsL (m, wsum m bs % 2) (fun u => decide (bs.getD u 0 = 1)) := fun m _ => wsum_par m bs bs2
    have s2 := same_new (o := .lst []) nll
    refine ⟨fun v H => ∃ q : Nat, v = .int (q : Int) ∧ q ≤ 101 ∧ (0 < q → 0 < n) ∧ But b G H ∧ BagAt K H b c ∧ H D = some (.lst (iv bs)) ∧ H ll = some (.lst []), ?_, ?_⟩
    · refine ⟨_, rfl, _, _, rfl, rfl, _, rfl, ite2 (fun hc => ?_) (fun _ => ⟨0, rfl, by decide, (fun h => absurd h (by decide)), s1.trans (But.same s2), B1.same s2, s2 _ _ eD, upd_same⟩)⟩
      have n0 := of_decide_eq_true hc
      refine ⟨_, rfl, _, rfl, _, _, rfl, rfl, b, c, k + 1, rfl, B1.same s2, by omega, by omega, fun H3 r s3 B3 hr => ?_⟩
      exact ⟨r, rfl, by omega, (fun _ => by omega), (s1.trans (But.same s2)).trans s3, B3, s3 _ _ nDb (s2 _ _ eD), s3 _ _ nlb upd_same⟩
    rintro v H4 ⟨q, rfl, hq, hqn, s4, B4, eD4, el4⟩
    refine ⟨(q : Int), rfl, by omega, by omega, for_range (lo := 0) (n := q) (fun i σ H => ∃ us ls y6 y7, σ = [some (.ref b), some (.int (n : Int)), some (.int (k : Int)), some (.ref D), some (.ref ll), none, y6, y7] ∧ But b G H ∧ BagAt K H b c ∧ H D = some (.lst (iv bs)) ∧ H ll = some (.lst us) ∧
        Paired (LineV K H) us ls ∧ (∀ l ∈ ls, l.1 < 2 ^ n ∧ l.2 < 2 ∧ holdsL l (fun u => decide (bs.getD u 0 = 1))) ∧ us.length ≤ i)
      ⟨[], [], _, _, rfl, s4, B4, eD4, el4, .nil, (fun l hl => by cases hl), Nat.le_refl _⟩ ?_ ?_⟩
    · rintro i σ H hi ⟨us, ls, y6, y7, rfl, s5, B5, eD5, el5, P5, hl5, lu⟩
      refine ⟨_, rfl, _, rfl, b, c, n, rfl, B5, hqn (by omega), n62, fun H6 v6 m s6 B6 hv6 hm _ => ?_⟩
      have eD6 := s6 _ _ nDb eD5
      have el6 := s6 _ _ nlb el5
      have P6 : Paired (LineV K H6) us ls := by
        obtain ⟨yb, eb⟩ := B5.lst
        exact lines_but eb s6 P5
      refine ⟨_, rfl, .inl ⟨rfl, _, .inl (.inl el6)⟩, _, rfl, _, rfl, _, rfl, v6, D, m, bs, rfl, hv6, .inl (.inl eD6), (fun u hu => by rw [lbs]; exact bits_below hm hu), fun H7 s7 => ⟨(by show 2 ≤ sizeLine; decide), fun t nt => ?_⟩⟩
      have s8 := s7.trans (same_new (o := .tup [v6, V.int ((wsum m bs % 2 : Nat) : Int)]) nt)
      have el8 := s8 _ _ el6
      refine ⟨ll, us, .ref t, rfl, rfl, el8, small1000 (by omega), us ++ [V.ref t], ls ++ [(m, wsum m bs % 2)], _, _, rfl, but_mut ((s5.trans s6).trans (But.same s8)) ngl, BagAt.mut hB ngl (B6.same s8), ?_, upd_same, ?_, ?_, by simp; omega⟩
      · rw [upd_ne nlD]
        exact s8 _ _ eD6
      · exact PySem.Paired.snoc (lines_but el8 But.at_ (lines_same s8 P6)) (LineV.but el8 But.at_ ⟨t, v6, rfl, .inl (.inl upd_same), hv6.same s8⟩)
      · intro l hl
        rcases List.mem_append.mp hl with hl | hl
        · exact hl5 l hl
        · have hl : l = (m, wsum m bs % 2) := by simpa using hl
          rw [hl]
          exact ⟨hm, Nat.mod_lt _ (by decide), wsum_par m bs bs2⟩
    · rintro σ H ⟨us, ls, y6, y7, rfl, s5, B5, eD5, el5, P5, hl5, lu⟩
      have h63 : ∀ l ∈ ls, l.1 < 2 ^ 63 ∧ l.2 < 2 := fun l hl => ⟨Nat.lt_of_lt_of_le (hl5 l hl).1 (Nat.pow_le_pow_right (by decide) (by omega)), (hl5 l hl).2.1⟩
      refine ⟨_, rfl, ll, us, ls, rfl, .inl (.inl el5), P5, h63, fun H8 v8 s8 hv8 => ?_⟩
      cases q : lflat ls with
      | none => exact absurd (fun l hl => (hl5 l hl).2.2) ((lflat_sol ls h63).2 q _)
      | some hs =>
        rw [q] at hv8
        exact kk _ v8 hs (s5.trans (But.same s8)) (B5.same s8) hv8 (lflat_flat ls h63 hs q) (lflat_lt (by omega) ls (fun l hl => ⟨(hl5 l hl).1, (hl5 l hl).2.1⟩) hs q)
end
end Es
set_option Elab.async false
set_option linter.all false
set_option maxRecDepth 100000
set_option maxHeartbeats 4000000
namespace Es
open PySem PySem.Spec PyProof.Rows L2
section
variable {P : Program} {w : World} {K : PySem.W.Frag} {mg : Str → Option Value} {base : Heap}
theorem ok_law_room {f : Addr} {fd : FuncData} (F : Fun K "_law_room" "_law_room" s_law_room f fd) (T : Txt mg)  : FnG P w K mg base 1 f fd ["many"] (sp_law_roomZ K) := by
  refine okG F sc_law_room (fun h => ?_) (fun cdv B out t0 G ys R E hr hg h => ?_)
  · obtain ⟨n, rfl, _⟩ := h
    rfl
  · obtain ⟨n, rfl, n7, kk⟩ := h
    refine ⟨_, (pss_cons
        (ps_par (i := 1) (j := 2) rfl sc_law_room.nd rfl rfl (by decide) rfl rfl (pa_cons (pe_op op_sub (pe_op op_shlW pe_int (pe_op op_shlW pe_int (pv 0))) pe_int) (pa_cons (pe_lst pa_nil) pa_nil)) (by rfl))
        (pss_cons
        (ps_for PassesOwn.never rfl (pi_range1 (by rfl) T.z_range (pa_cons (pv 0) pa_nil)) (pg_name (i := 3) sc_law_room.nd rfl (.inl rfl))
        (pss_cons
          (ps_set (i := 4) sc_law_room.nd rfl (Or.inl rfl) (pe_op op_shlW pe_int (pe_op op_sub (pe_op op_sub (pv 0) pe_int) (pv 3))))
          (pss_cons
          (ps_set (i := 5) sc_law_room.nd rfl (Or.inl rfl) (pe_op op_shlW (pe_op op_sub (pe_op op_shlW pe_int (pv 4)) pe_int) (pv 4)))
          (pss_cons
          (ps_set (i := 6) sc_law_room.nd rfl (Or.inl rfl) pe_int)
          (pss_cons
          (ps_for PassesOwn.never rfl (pi_range1 (by rfl) T.z_range (pa_cons (pe_op op_shlW pe_int (pv 3)) pa_nil)) (pg_name (i := 7) sc_law_room.nd rfl (.inl rfl))
          (pss_one
            (ps_set (i := 6) sc_law_room.nd rfl (Or.inl rfl) (pe_op op_or (pv 6) (pe_op op_shlW (pv 5) (pe_op op_mul (pe_op op_mul pe_int (pv 4)) (pv 7)))))))
          (pss_one
          (ps_expr (pe_bm PySem.F.plainAttrs_list PySem.F.slot_list_append PySem.F.type_list_append mt_append (pv 2) (pa_cons (pv 6) pa_nil)))))))))
        (pss_one
        (ps_ret (pe_tup (pa_cons (pv 0) (pa_cons (pv 1) (pa_cons (pe_callTy call_tuple_of (by rfl) T.z_tuple (by decide +kernel) (pa_cons (pv 2) pa_nil)) pa_nil)))))))), ?_⟩
    have hn : 2 ^ n ≤ 4096 := Nat.pow_le_pow_right (n := 2) (j := 12) (by decide) n7
    have c1 : CShl 1 (n : Int) := shl_ok (n := 1) (by decide) (by omega)
    have c2 : CShl 1 ((1 : Int) * 2 ^ ((n : Int).toNat)) := by
      rw [shl_one]
      exact shl_ok (n := 1) (by decide) (by omega)
    refine ⟨_, rfl, _, _, rfl, rfl, c1, _, _, rfl, rfl, c2, _, _, rfl, rfl, Nat.zero_le _, fun cl ncl => ⟨_, _, rfl, ?_⟩⟩
    refine ⟨_, rfl, (n : Int), rfl, by omega, by omega, for_range (lo := 0) (n := n) (fun i σ H => ∃ cs y3 y4 y5 y6 y7, σ = [some (.int (n : Int)), some (.int ((1 : Int) * 2 ^ (((1 : Int) * 2 ^ ((n : Int).toNat)).toNat) - 1)), some (.ref cl), y3, y4, y5, y6, y7] ∧ Same G H ∧ H cl = some (.lst (iv cs)) ∧ cs = (List.range i).map (fun u => col (n - 1 - u) (2 ^ u)))
      ⟨[], _, _, _, _, _, rfl, same_new ncl, upd_same, rfl⟩ ?_ ?_⟩
    · rintro i σ H hi ⟨cs, y3, y4, y5, y6, y7, rfl, s1, ecl, ecs⟩
      have es : (1 : Int) * 2 ^ (((n : Int) - 1 - (0 + (i : Int))).toNat) = ((2 ^ (n - 1 - i) : Nat) : Int) := by
        have e : (n : Int) - 1 - (0 + (i : Int)) = ((n - 1 - i : Nat) : Int) := by omega
        rw [e, shl_one]
      have w0 : 0 < 2 ^ (n - 1 - i) := Nat.two_pow_pos _
      have w64 : 2 ^ (n - 1 - i) ≤ 2048 := Nat.pow_le_pow_right (n := 2) (j := 11) (by decide) (by omega)
      have c3 : CShl 1 ((n : Int) - 1 - (0 + (i : Int))) := by
        have e : (n : Int) - 1 - (0 + (i : Int)) = ((n - 1 - i : Nat) : Int) := by omega
        rw [e]
        exact shl_ok (n := 1) (by decide) (by omega)
      refine ⟨_, rfl, _, _, rfl, rfl, _, rfl, _, _, rfl, rfl, _, _, rfl, rfl, c3, ?_⟩
      dsimp only
      rw [es]
      have i128 : 2 ^ i ≤ 4096 := Nat.pow_le_pow_right (n := 2) (j := 12) (by decide) (by omega)
      have step : ∀ k, col (n - 1 - i) (k + 1) = col (n - 1 - i) k ||| (((2 ^ 2 ^ (n - 1 - i) - 1) * 2 ^ 2 ^ (n - 1 - i)) * 2 ^ (2 * 2 ^ (n - 1 - i) * k)) := fun k => rfl
      have c0 : col (n - 1 - i) 0 = 0 := rfl
      obtain ⟨C, eC⟩ : ∃ C, C = col (n - 1 - i) := ⟨_, rfl⟩
      rw [← eC] at step c0
      generalize 2 ^ (n - 1 - i) = w at w0 w64 step
      have c4 : CShl 1 (w : Int) := shl_ok (n := 1) (by decide) (by omega)
      have p1 : 1 ≤ 2 ^ w := Nat.two_pow_pos w
      have e3 : (1 : Int) * 2 ^ ((w : Int).toNat) - 1 = ((2 ^ w - 1 : Nat) : Int) := by
        rw [shl_one, Int.ofNat_sub p1]
        rfl
      have l64 : 2 ^ w ≤ 2 ^ 2048 := Nat.pow_le_pow_right (by decide) w64
      have c5 : CShl ((1 : Int) * 2 ^ ((w : Int).toNat) - 1) (w : Int) := by
        rw [e3]
        refine shl_ok (n := 2048) ?_ (by omega)
        show 2 ^ w - 1 < 2 ^ 2048
        exact Nat.lt_of_lt_of_le (Nat.sub_lt (by omega) (by decide)) l64
      have eb : ((1 : Int) * 2 ^ ((w : Int).toNat) - 1) * 2 ^ ((w : Int).toNat) = (((2 ^ w - 1) * 2 ^ w : Nat) : Int) := by
        rw [e3, Int.toNat_natCast]
        norm_cast
      have b128 : (2 ^ w - 1) * 2 ^ w < 2 ^ 4096 := by
        have h1 : (2 ^ w - 1) * 2 ^ w < 2 ^ w * 2 ^ w := Nat.mul_lt_mul_of_pos_right (by omega) (by omega)
        have h2 : 2 ^ w * 2 ^ w ≤ 2 ^ 2048 * 2 ^ 2048 := Nat.mul_le_mul l64 l64
        have h3 : 2 ^ 2048 * 2 ^ 2048 = 2 ^ 4096 := by rw [← Nat.pow_add]
        rw [← h3]
        exact Nat.lt_of_lt_of_le h1 h2
      refine ⟨_, rfl, _, _, rfl, rfl, c4, _, _, rfl, rfl, _, rfl, _, _, rfl, rfl, c5, ?_⟩
      dsimp only
      rw [eb]
      generalize (2 ^ w - 1) * 2 ^ w = B2 at b128 step
      obtain ⟨I, eI⟩ : ∃ I, I = 2 ^ i := ⟨_, rfl⟩
      rw [← eI] at i128
      have e2 : (1 : Int) * 2 ^ ((0 + (i : Int)).toNat) = ((I : Nat) : Int) := by rw [Int.zero_add, shl_one, eI]
      have c6 : CShl 1 (0 + (i : Int)) := by
        rw [Int.zero_add]
        exact shl_ok (n := 1) (by decide) (by omega)
      refine ⟨_, rfl, _, _, rfl, rfl, c6, ((I : Nat) : Int), congrArg (fun z => [V.int z]) e2, by omega, by omega, for_range (lo := 0) (n := I) (fun k σ H' => ∃ y7, σ = [some (.int (n : Int)), some (.int ((1 : Int) * 2 ^ (((1 : Int) * 2 ^ ((n : Int).toNat)).toNat) - 1)), some (.ref cl), some (.int (0 + (i : Int))), some (.int (w : Int)), some (.int (B2 : Int)), some (.int ((C k : Nat) : Int)), y7] ∧ H' = H)
        ⟨_, by rw [c0]; rfl, rfl⟩ ?_ ?_⟩
      · rintro k σ H' hk ⟨y7', rfl, rfl⟩
        have e4 : (2 : Int) * (w : Int) * (0 + (k : Int)) = ((2 * w * k : Nat) : Int) := by
          rw [Int.zero_add]
          norm_cast
        have lk : 2 * w * k ≤ 4096 * 4096 := Nat.mul_le_mul (by omega) (by omega)
        have c7 : CShl (B2 : Int) ((2 : Int) * (w : Int) * (0 + (k : Int))) := by
          rw [e4]
          exact shl_ok (n := 4096) b128 (by omega)
        refine ⟨_, rfl, _, rfl, _, rfl, _, _, rfl, rfl, .inl ⟨by decide, by decide⟩, _, rfl, _, _, rfl, rfl, .inl ⟨by omega, by omega⟩, _, _, rfl, rfl, c7, _, _, rfl, rfl, some (V.int (0 + (k : Int))), ?_, rfl⟩
        show [_, _, _, _, _, _, some (V.int (Builtin.bitOr (C k : Int) ((B2 : Int) * 2 ^ (((2 : Int) * (w : Int) * (0 + (k : Int))).toNat)))), _] = _
        have e5 : (B2 : Int) * 2 ^ (((2 : Int) * (w : Int) * (0 + (k : Int))).toNat) = ((B2 * 2 ^ (2 * w * k) : Nat) : Int) := by
          rw [e4, Int.toNat_natCast]
          norm_cast
        rw [e5, or_nat, ← step k]
      · rintro σ H' ⟨y7', rfl, rfl⟩
        have lcs : cs.length = i := by rw [ecs, List.length_map, List.length_range]
        refine ⟨_, rfl, .inl ⟨rfl, _, .inl (.inl ecl)⟩, _, rfl, cl, iv cs, _, rfl, rfl, ecl, (by rw [iv_len, lcs]; exact small1000 (by omega)), cs ++ [C I], _, _, _, _, _, rfl, same_mut s1 ncl, ?_, ?_⟩
        · rw [upd_same]
          simp [iv]
        · rw [List.range_succ, List.map_append, ecs]
          rw [eC, eI]
          rfl
    · rintro σ H ⟨cs, y3, y4, y5, y6, y7, rfl, s1, ecl, ecs⟩
      have eW : (1 : Int) * 2 ^ (((1 : Int) * 2 ^ ((n : Int).toNat)).toNat) - 1 = ((2 ^ 2 ^ n - 1 : Nat) : Int) := by
        rw [shl_one, shl_one, Int.ofNat_sub (Nat.two_pow_pos _)]
        rfl
      refine ⟨_, rfl, _, rfl, _, rfl, cl, _, rfl, .inl ⟨.inl (.inl ecl), fun t2 nt2 => ⟨(by show 3 ≤ sizeLine; decide), fun q nq => ?_⟩⟩⟩
      rw [eW]
      have s2 := (same_new (o := .tup (iv cs)) nt2).trans (same_new (o := .tup [V.int (n : Int), V.int ((2 ^ 2 ^ n - 1 : Nat) : Int), V.ref t2]) nq)
      refine kk _ _ (s1.trans s2) ⟨q, t2, cs, rfl, .inl (.inl upd_same), .inl (.inl (same_new nq _ _ upd_same)), by rw [ecs, List.length_map, List.length_range], fun u hu => ?_⟩
      have e6 : cs.getD u 0 = col (n - 1 - u) (2 ^ u) := by
        rw [ecs, List.getD_eq_getElem?_getD, List.getElem?_map, List.getElem?_range hu]
        rfl
      rw [e6]
      exact col_is hu
end
end Es
set_option Elab.async false
set_option linter.all false
set_option maxRecDepth 100000
set_option maxHeartbeats 4000000
namespace Es
open PySem PySem.Spec PyProof.Rows L2
section
variable {P : Program} {w : World} {K : PySem.W.Frag} {mg : Str → Option Value} {base : Heap}
theorem ok_law_bits {f : Addr} {fd : FuncData} (F : Fun K "_law_bits" "_law_bits" s_law_bits f fd) (T : Txt mg)  : FnG P w K mg base 1 f fd ["room", "place"] (sp_law_bitsZ K) := by
  refine okG F sc_law_bits (fun h => ?_) (fun cdv B out t0 G ys R E hr hg h => ?_)
  · obtain ⟨v, n, s, rfl, _⟩ := h
    rfl
  · obtain ⟨v, n, s, rfl, hR, n7, kk⟩ := h
    refine ⟨_, (pss_one
        (ps_ret (pe_callTy call_tuple_of (by rfl) T.z_tuple (by decide +kernel) (pa_cons (pe_lc (own := [("unknown", 2)]) rfl sc_law_bits.nd (pi_range1 (by rfl) T.z_range (pa_cons (pe_ix ix_tup (pv 0) pe_int (fun _ _ => rfl)) pa_nil)) (blkOk_by (own := [("unknown", 2)]) (N := ["room", "place", "unknown"]) (sc := defScope s_law_bits) (by decide +kernel)) (fun _ _ _ _ _ => (pg_name (i := 2) sc_law_bits.nd rfl (.inl rfl))) (fun _ _ _ _ _ => pts_nil) (fun _ _ _ _ _ => (pe_op op_and (pe_op op_shr (pv 1) (pe_op op_sub (pe_op op_sub (pe_ix (r := rIxT K) ix_tup (pv 0) pe_int (fun _ _ => rfl)) pe_int) (pv 2))) pe_int))) pa_nil)))), ?_⟩
    obtain ⟨t, c, cs, rfl, ht, hc, lcs, hcs⟩ := hR
    refine ⟨_, rfl, t, _, 0, _, rfl, rfl, ht, atI_nat (j := 0) rfl, (n : Int), rfl, by omega, by omega, fun D hD => ?_⟩
    refine lc_range (lo := 0) (n := n) (fun i H => H D = some (.lst (iv ((bitsS n s).take i))) ∧ Same G H) ⟨upd_same, same_new hD⟩ ?_ ?_
    · rintro i H hi ⟨eD, s1⟩
      have e0 : (0 : Int) + (i : Int) = (i : Int) := Int.zero_add _
      rw [e0]
      have ej : (n : Int) - 1 - (i : Int) = ((n - 1 - i : Nat) : Int) := by omega
      refine ⟨rfl, _, rfl, _, rfl, t, _, 0, _, rfl, rfl, sqT_same s1 ht, atI_nat (j := 0) rfl, _, _, rfl, rfl, _, rfl, _, _, rfl, rfl, _, _, rfl, rfl, by omega, _, _, rfl, rfl, _, eD, ?_, ?_, same_mut s1 hD⟩
      · rw [iv_len, List.length_take]
        exact small1000 (by omega)
      · rw [upd_same]
        have sa := shr_and s (n - 1 - i)
        rw [← ej] at sa
        have hl : i < (bitsS n s).length := by rw [bitsS_len]; exact hi
        have eb : (bitsS n s)[i] = if s.testBit (n - 1 - i) = true then 1 else 0 := by simp [bitsS]
        rw [List.take_succ_eq_append_getElem hl, eb]
        dsimp only
        rw [sa]
        split <;> simp [iv]
    · rintro H ⟨eD, s1⟩
      have e : (bitsS n s).take n = bitsS n s := List.take_of_length_le (by rw [bitsS_len]; exact Nat.le_refl _)
      rw [e] at eD
      refine ⟨D, _, rfl, .inl ⟨.inl (.inl eD), fun q nq => ?_⟩⟩
      exact kk _ q (s1.trans (same_new nq)) (s1.free nq) (.inl (.inl upd_same))
end
end Es
set_option Elab.async false
set_option linter.all false
set_option maxRecDepth 100000
set_option maxHeartbeats 4000000
namespace Es
open PySem PySem.Spec PyProof.Rows L2
section
variable {P : Program} {w : World} {K : PySem.W.Frag} {mg : Str → Option Value} {base : Heap}
theorem ok_law_least {f : Addr} {fd : FuncData} (F : Fun K "_law_least" "_law_least" s_law_least f fd) (T : Txt mg) (c_law_bits : CalleeOf P w K mg base 1 "_law_bits" ["room", "place"] (sp_law_bitsZ K)) : FnG P w K mg base 2 f fd ["room", "some"] (sp_law_leastZ K) := by
  refine okG F sc_law_least (fun h => ?_) (fun cdv B out t0 G ys R E hr hg h => ?_)
  · obtain ⟨v, n, x, rfl, _⟩ := h
    rfl
  · obtain ⟨v, n, x, rfl, hR, n7, k0, k1⟩ := h
    refine ⟨_, (pss_one
        (ps_ret (pe_ifExp (pt_cmpR op_gt (pv 1) pe_int (nomark _)) (pe_callC c_law_bits (hr.mono (by decide)) hg (by rfl) (pa_cons (pv 0) (pa_cons (pe_op op_sub (pe_bits (pe_op op_and (pv 1) (pe_un un_neg (pv 1)))) pe_int) pa_nil))) pe_non))), ?_⟩
    refine ⟨_, rfl, _, _, rfl, rfl, _, rfl, ite2 (fun hc => ?_) (fun hc => ?_)⟩
    · have x0 : x ≠ 0 := by have := of_decide_eq_true hc; omega
      obtain ⟨s, h2, h3⟩ := least_bit x0
      have es : (Builtin.Int.intBits (Builtin.bitAnd (x : Int) (-(x : Int))) : Int) - 1 = (s : Int) := by
        rw [and_negG h2 h3, bits_pow]
        omega
      refine ⟨_, rfl, _, rfl, _, rfl, _, rfl, _, _, rfl, rfl, _, rfl, _, _, rfl, rfl, v, n, s, ?_, hR, n7, fun H1 t s1 nt ht => k1 s h2 h3 H1 (.ref t) s1 ⟨t, rfl, ht⟩⟩
      show [v, V.int ((Builtin.Int.intBits (Builtin.bitAnd (x : Int) (-(x : Int))) : Int) - 1)] = _
      rw [es]
    · have x0 : x = 0 := by
        by_cases z : x = 0
        · exact z
        · exact absurd (decide_eq_true (by omega)) hc
      exact k0 x0
end
end Es
set_option Elab.async false
set_option linter.all false
set_option maxRecDepth 100000
set_option maxHeartbeats 4000000
namespace Es
open PySem PySem.Spec PyProof.Rows L2
section
variable {P : Program} {w : World} {K : PySem.W.Frag} {mg : Str → Option Value} {base : Heap}
theorem ok_law_listed {f : Addr} {fd : FuncData} (F : Fun K "_law_listed" "_law_listed" s_law_listed f fd) (T : Txt mg) (c_law_least : CalleeOf P w K mg base 2 "_law_least" ["room", "some"] (sp_law_leastZ K)) : FnG P w K mg base 3 f fd ["room", "some"] (sp_law_listedZ K) := by
  refine okG F sc_law_listed (fun h => ?_) (fun cdv B out t0 G ys R E hr hg h => ?_)
  · obtain ⟨v, n, x, rfl, _⟩ := h
    rfl
  · obtain ⟨v, n, x, rfl, hR, n7, hx, kk⟩ := h
    refine ⟨_, (pss_cons
        (ps_set (i := 2) sc_law_listed.nd rfl (Or.inl rfl) (pe_lst pa_nil))
        (pss_cons
        (ps_while PassesOwn.never (pt_cmpR op_gt (pv 1) pe_int (nomark _))
        (pss_cons
          (ps_expr (pe_bm PySem.F.plainAttrs_list PySem.F.slot_list_append PySem.F.type_list_append mt_append (pv 2) (pa_cons (pe_callC c_law_least (hr.mono (by decide)) hg (by rfl) (pa_cons (pv 0) (pa_cons (pv 1) pa_nil))) pa_nil)))
          (pss_one
          (ps_set (i := 1) sc_law_listed.nd rfl (Or.inl rfl) (pe_op op_and (pv 1) (pe_op op_sub (pv 1) pe_int))))))
        (pss_one
        (ps_ret (pv 2))))), ?_⟩
    have hn : 2 ^ n ≤ 4096 := Nat.pow_le_pow_right (n := 2) (j := 12) (by decide) n7
    refine ⟨Nat.zero_le _, fun D hD => ?_⟩
    refine ⟨fun k σ H => ∃ (c y : Nat) (us : List V), k = 2 ^ n - c ∧ c ≤ 2 ^ n ∧ σ = [some v, some (.int (y : Int)), some (.ref D)] ∧ Same G H ∧ H D = some (.lst us) ∧ Paired (BitsV K n H) us ((List.range c).filter fun s => x.testBit s) ∧ ∀ s, y.testBit s = (x.testBit s && decide (c ≤ s)),
      ⟨2 ^ n, 0, x, [], (Nat.sub_zero _).symm, Nat.zero_le _, rfl, same_new hD, upd_same, .nil, fun s => by rw [decide_eq_true (Nat.zero_le s), Bool.and_true]⟩, ?_⟩
    rintro k σ H ⟨c, y, us, rfl, hc, rfl, s1, eD, P, hy⟩
    have ylt : ∀ s, y.testBit s = true → s < 2 ^ n := fun s h => by
      refine Nat.lt_of_not_le fun z => ?_
      rw [hy, Nat.testBit_lt_two_pow (Nat.lt_of_lt_of_le hx (Nat.pow_le_pow_right (by decide) z))] at h
      cases h
    have lus : us.length ≤ c := by
      rw [Paired.len P]
      exact Nat.le_trans (List.length_filter_le _ _) (by rw [List.length_range]; exact Nat.le_refl _)
    refine ⟨_, rfl, _, _, rfl, rfl, _, rfl, ite2 (fun hc' => ?_) (fun hc' => ?_)⟩
    · have y0 : y ≠ 0 := by have := of_decide_eq_true hc'; omega
      refine ⟨fun σ' H' => ∃ (c' y : Nat) (us : List V), c < c' ∧ c' ≤ 2 ^ n ∧ σ' = [some v, some (.int (y : Int)), some (.ref D)] ∧ Same G H' ∧ H' D = some (.lst us) ∧ Paired (BitsV K n H') us ((List.range c').filter fun s => x.testBit s) ∧ ∀ s, y.testBit s = (x.testBit s && decide (c' ≤ s)), fun σ' H' hN => ?_, ?_⟩
      · obtain ⟨c', y', us', g1, g2, rfl, g3, g4, g5, g6⟩ := hN
        exact ⟨2 ^ n - c', by omega, c', y', us', rfl, g2, rfl, g3, g4, g5, g6⟩
      refine ⟨_, rfl, .inl ⟨rfl, _, .inl (.inl eD)⟩, _, rfl, _, rfl, v, n, y, rfl, hR.same s1, n7, (fun z => absurd z y0), fun s h2 h3 H2 u s2 hu => ?_⟩
      have sn := ylt s h2
      have eD2 := s2 _ _ eD
      have hs := hy s
      rw [h2] at hs
      have hs1 : x.testBit s = true := by
        cases q : x.testBit s with
        | true => rfl
        | false => rw [q] at hs; cases hs
      have hs2 : c ≤ s := by
        rw [hs1, Bool.true_and] at hs
        exact of_decide_eq_true hs.symm
      have gap : (List.range (s + 1)).filter (fun s => x.testBit s) = (List.range c).filter (fun s => x.testBit s) ++ [s] := by
        rw [List.range_succ, List.filter_append]
        congr 1
        · have go : ∀ d, c + d ≤ s → (List.range (c + d)).filter (fun s => x.testBit s) = (List.range c).filter (fun s => x.testBit s) := by
            intro d
            induction d with
            | zero => intro _; rfl
            | succ d ih =>
              intro hd
              rw [← Nat.add_assoc, List.range_succ, List.filter_append, ih (by omega)]
              have h4 := h3 (c + d) (by omega)
              rw [hy, decide_eq_true (show c ≤ c + d by omega), Bool.and_true] at h4
              simp [h4]
          have := go (s - c) (by omega)
          rwa [Nat.add_sub_cancel' hs2] at this
        · simp [hs1]
      refine ⟨D, us, u, rfl, rfl, eD2, small5000 (by omega), _, rfl, _, rfl, _, _, rfl, rfl, _, _, rfl, rfl, s + 1, y &&& (y - 1), us ++ [u], by omega, by omega, ?_, same_mut (s1.trans s2) hD, upd_same, ?_, fun j => ?_⟩
      · show [some v, some (V.int (Builtin.bitAnd (y : Int) ((y : Int) - 1))), _] = _
        have e : (y : Int) - 1 = ((y - 1 : Nat) : Int) := by omega
        rw [e, and_nat]
      · rw [gap]
        exact PySem.Paired.snoc (Paired.mono2 (fun _ _ z => (z.same s2).but eD2 But.at_) P) (hu.but eD2 But.at_)
      · rw [and_pred h2 h3 j, hy j]
        cases q : x.testBit j with
        | false => rfl
        | true =>
          rw [Bool.true_and, Bool.true_and]
          have h4 : c ≤ j → j < s → False := fun a b => by
            have h5 := h3 j b
            rw [hy, q, decide_eq_true a] at h5
            cases h5
          by_cases z1 : s + 1 ≤ j
          · rw [decide_eq_true z1, decide_eq_true (show c ≤ j by omega), decide_eq_true (show j ≠ s by omega)]
            rfl
          · rw [decide_eq_false z1]
            by_cases z2 : c ≤ j
            · have : j = s := by
                refine Classical.byContradiction fun w => h4 z2 (by omega)
              rw [decide_eq_false (show ¬ j ≠ s from fun w => w this), Bool.and_false]
            · rw [decide_eq_false z2]
              rfl
    · have y0 : y = 0 := by
        by_cases z : y = 0
        · exact z
        · exact absurd (decide_eq_true (by omega)) hc'
      have all_ : (List.range (2 ^ n)).filter (fun s => x.testBit s) = (List.range c).filter (fun s => x.testBit s) := by
        have go : ∀ d, (List.range (c + d)).filter (fun s => x.testBit s) = (List.range c).filter (fun s => x.testBit s) := by
          intro d
          induction d with
          | zero => rfl
          | succ d ih =>
            rw [← Nat.add_assoc, List.range_succ, List.filter_append, ih]
            have h4 := hy (c + d)
            rw [y0, Nat.zero_testBit, decide_eq_true (show c ≤ c + d by omega), Bool.and_true] at h4
            simp [← h4]
        have := go (2 ^ n - c)
        rwa [Nat.add_sub_cancel' hc] at this
      refine ⟨_, rfl, kk H D us s1 hD eD ?_⟩
      rw [all_]
      exact P
end
end Es
set_option Elab.async false
set_option linter.all false
set_option maxRecDepth 100000
set_option maxHeartbeats 4000000
namespace Es
open PySem PySem.Spec PyProof.Rows L2
section
variable {P : Program} {w : World} {K : PySem.W.Frag} {mg : Str → Option Value} {base : Heap}
theorem ok_law_held {f : Addr} {fd : FuncData} (F : Fun K "_law_held" "_law_held" s_law_held f fd) (T : Txt mg)  : FnG P w K mg base 1 f fd ["room", "line"] (sp_law_heldZ K) := by
  refine okG F sc_law_held (fun h => ?_) (fun cdv B out t0 G ys R E hr hg h => ?_)
  · obtain ⟨v, u, n, l, rfl, _⟩ := h
    rfl
  · obtain ⟨v, u, n, l, rfl, hR, n7, hL, l1, l2, kk⟩ := h
    refine ⟨_, (pss_cons
        (ps_set (i := 2) sc_law_held.nd rfl (Or.inl rfl) pe_int)
        (pss_cons
        (ps_for PassesOwn.never rfl (pi_tup (pe_ix ix_tup (pv 1) pe_int (fun _ _ => rfl))) (pg_name (i := 3) sc_law_held.nd rfl (.inl rfl))
        (pss_one
          (ps_set (i := 2) sc_law_held.nd rfl (Or.inl rfl) (pe_op op_xor (pv 2) (pe_ix ix_tup (pe_ix ix_tup (pv 0) pe_int (fun _ _ => rfl)) (pv 3) (fun _ _ => rfl))))))
        (pss_one
        (ps_ret (pe_ifExp (pt_cmpR op_eq (pe_ix ix_tup (pv 1) pe_int (fun _ _ => rfl)) pe_int (nomark _)) (pv 2) (pe_op op_xor (pe_ix ix_tup (pv 0) pe_int (fun _ _ => rfl)) (pv 2))))))), ?_⟩
    obtain ⟨t, c, cs, rfl, ht, hc, lcs, hcs⟩ := hR
    obtain ⟨tl, rl, rfl, htl, ⟨pr, rfl, hpr⟩⟩ := hL
    refine ⟨_, rfl, tl, _, 0, _, rfl, rfl, htl, atI_nat (j := 0) rfl, pr, rfl, ⟨_, hpr⟩, for_tup (K := K) (a := pr) (xs := iv (bts l.1))
      (fun i σ H => ∃ x y3, σ = [some (.ref t), some (.ref tl), some (.int ((x : Nat) : Int)), y3] ∧ H = G ∧ BitsOf (2 ^ n) x (fun s => ((bts l.1).take i).foldl (fun b u => b ^^ fS n s u) false))
      ⟨0, _, rfl, rfl, BitsOf.none _⟩ (fun i σ H _ ⟨_, _, _, e, _⟩ => by rw [e]; exact hpr) ?_ ?_⟩
    · rintro i x σ H hi ⟨y, y3, rfl, rfl, hy⟩
      obtain ⟨u, hu1, rfl⟩ := iv_get hi
      have hil := (List.getElem?_eq_some_iff.mp hu1).1
      have hun : u < n := bits_below l1 (List.mem_of_getElem? hu1)
      have at1 : atI (iv cs) (u : Int) = some (.int ((cs.getD u 0 : Nat) : Int)) := by
        refine atI_nat ?_
        unfold iv
        rw [List.getElem?_map, List.getElem?_eq_getElem (by omega), List.getD_eq_getElem?_getD, List.getElem?_eq_getElem (by omega)]
        rfl
      refine ⟨_, rfl, _, rfl, t, _, 2, _, rfl, rfl, ht, atI_nat (j := 2) rfl, _, rfl, c, _, _, _, rfl, rfl, hc, at1, _, _, rfl, rfl, y ^^^ cs.getD u 0, some (V.int (u : Int)), ?_, rfl, ?_⟩
      · show [some (V.ref t), some (V.ref tl), some (V.int (Builtin.bitXor (y : Int) ((cs.getD u 0 : Nat) : Int))), _] = _
        rw [xor_nat]
      · refine (hy.xor (hcs u hun)).congr fun s _ => ?_
        rw [List.take_succ_eq_append_getElem hil, (List.getElem?_eq_some_iff.mp hu1).2, List.foldl_append]
        rfl
    · rintro σ H ⟨y, y3, rfl, rfl, hy⟩
      rw [iv_len, List.take_length] at hy
      have hp : BitsOf (2 ^ n) y (fun s => par l.1 (fS n s)) := hy.congr fun s _ => (par_bts _ _).symm
      refine ⟨_, rfl, tl, _, 1, _, rfl, rfl, htl, atI_nat (j := 1) rfl, rfl, _, rfl, ite2 (fun hc => ?_) (fun hc => ?_)⟩
      · have z : l.2 = 1 := by have := V.int.inj (of_decide_eq_true hc); omega
        refine ⟨_, rfl, kk y (hp.congr fun s _ => ?_)⟩
        unfold holdsB
        rw [decide_eq_true z]
        cases par l.1 (fS n s) <;> rfl
      · have z : ¬ l.2 = 1 := fun z => hc (decide_eq_true (by rw [z]; rfl))
        refine ⟨_, rfl, t, _, 1, _, rfl, rfl, ht, atI_nat (j := 1) rfl, _, rfl, _, _, rfl, rfl, ?_⟩
        have hw := ((BitsOf.all (2 ^ n)).xor hp).congr (q := fun s => holdsB l (fS n s)) fun s _ => by
          unfold holdsB
          rw [decide_eq_false z]
          cases par l.1 (fS n s) <;> rfl
        have hk := kk _ hw
        rw [← xor_nat] at hk
        exact hk
end
end Es
set_option Elab.async false
set_option linter.all false
set_option maxRecDepth 100000
set_option maxHeartbeats 4000000
namespace Es
open PySem PySem.Spec PyProof.Rows L2
section
variable {P : Program} {w : World} {K : PySem.W.Frag} {mg : Str → Option Value} {base : Heap}
theorem ok_law_in {f : Addr} {fd : FuncData} (F : Fun K "_law_in" "_law_in" s_law_in f fd) (T : Txt mg) (c_law_held : CalleeOf P w K mg base 1 "_law_held" ["room", "line"] (sp_law_heldZ K)) : FnG P w K mg base 2 f fd ["room", "flat"] (sp_law_inZ K) := by
  refine okG F sc_law_in (fun h => ?_) (fun cdv B out t0 G ys R E hr hg h => ?_)
  · obtain ⟨v, t, us, n, ls, rfl, _⟩ := h
    rfl
  · obtain ⟨v, t, us, n, ls, rfl, hR, n7, ht, hP, hl, kk⟩ := h
    refine ⟨_, (pss_cons
        (ps_set (i := 2) sc_law_in.nd rfl (Or.inl rfl) (pe_ix ix_tup (pv 0) pe_int (fun _ _ => rfl)))
        (pss_cons
        (ps_for PassesOwn.never rfl (pi_tup (pv 1)) (pg_name (i := 3) sc_law_in.nd rfl (.inl rfl))
        (pss_one
          (ps_set (i := 2) sc_law_in.nd rfl (Or.inl rfl) (pe_op op_and (pv 2) (pe_callC c_law_held (hr.mono (by decide)) hg (by rfl) (pa_cons (pv 0) (pa_cons (pv 3) pa_nil)))))))
        (pss_one
        (ps_ret (pv 2))))), ?_⟩
    have hR' := hR
    obtain ⟨tr, c, cs, rfl, htr, hc, lcs, hcs⟩ := hR
    have lenP : us.length = ls.length := Paired.len hP
    refine ⟨_, rfl, tr, _, 1, _, rfl, rfl, htr, atI_nat (j := 1) rfl, ?_⟩
    refine ⟨_, rfl, t, rfl, ⟨us, ht⟩, for_tup (K := K) (a := t) (xs := us)
      (fun i σ H => ∃ x y3, σ = [some (.ref tr), some (.ref t), some (.int ((x : Nat) : Int)), y3] ∧ H = G ∧ BitsOf (2 ^ n) x (fun s => (ls.take i).all fun l => holdsB l (fS n s)))
      ⟨_, _, rfl, rfl, BitsOf.all _⟩ (fun i σ H _ ⟨_, _, _, e, _⟩ => by rw [e]; exact ht) ?_ ?_⟩
    · rintro i x σ H hi ⟨y, y3, rfl, rfl, hy⟩
      obtain ⟨l, hli, hx⟩ := Paired.get hP hi
      have hil := (List.getElem?_eq_some_iff.mp hli).1
      obtain ⟨l1, l2⟩ := hl l (List.mem_of_getElem? hli)
      refine ⟨_, rfl, _, rfl, _, rfl, .ref tr, x, n, l, rfl, hR', n7, hx, l1, l2, fun z hz => ?_⟩
      refine ⟨_, _, rfl, rfl, y &&& z, some x, ?_, rfl, ?_⟩
      · show [some (V.ref tr), some (V.ref t), some (V.int (Builtin.bitAnd (y : Int) (z : Int))), _] = _
        rw [and_nat]
      · refine (hy.and hz).congr fun s _ => ?_
        rw [List.take_succ_eq_append_getElem hil, (List.getElem?_eq_some_iff.mp hli).2, List.all_append]
        simp
    · rintro σ H ⟨y, y3, rfl, rfl, hy⟩
      rw [lenP, List.take_length] at hy
      exact ⟨_, rfl, kk y hy⟩
end
end Es
set_option Elab.async false
set_option linter.all false
set_option maxRecDepth 100000
set_option maxHeartbeats 4000000
namespace Es
open PySem PySem.Spec PyProof.Rows L2
section
variable {P : Program} {w : World} {K : PySem.W.Frag} {mg : Str → Option Value} {base : Heap}
theorem ok_law_common_flat {f : Addr} {fd : FuncData} (F : Fun K "_law_common_flat" "_law_common_flat" s_law_common_flat f fd) (T : Txt mg) (c_law_worth : CalleeOf P w K mg base 1 "_law_worth" ["row", "bits"] (sp_law_worthS K)) (c_law_row : CalleeOf P w K mg base 1 "_law_row" ["mask"] (sp_law_row K)) (c_law_flat_of : CalleeOf P w K mg base 2 "_law_flat_of" ["lines"] (sp_flat_of K)) : FnG P w K mg base 3 f fd ["many", "some"] (sp_law_common_flat K) := by
  refine okG F sc_law_common_flat (fun h => ?_) (fun cdv B out t0 G ys R E hr hg h => ?_)
  · obtain ⟨a, us, n, L, rfl, _⟩ := h
    rfl
  · obtain ⟨a, us, n, L, rfl, n5, hS, hP, L0, l60, kk⟩ := h
    refine ⟨_, (pss_cons
        (ps_set (i := 2) sc_law_common_flat.nd rfl (Or.inl rfl) (pe_lst pa_nil))
        (pss_cons
        (ps_for PassesOwn.never rfl (pi_range2 (by rfl) T.z_range (pa_cons pe_int (pa_cons (pe_op op_shl pe_int (pv 0)) pa_nil))) (pg_name (i := 3) sc_law_common_flat.nd rfl (.inr rfl))
        (pss_cons
          (ps_set (i := 4) sc_law_common_flat.nd rfl (Or.inl rfl) (pe_callB (cr_sortedSet rfl) (by rfl) T.z_sorted (by decide +kernel) (pa_cons (pe_callTy (cr_setL rfl) (by rfl) T.z_set (by decide +kernel) (pa_cons (pe_lc (own := [("bits", 5)]) rfl sc_law_common_flat.nd (pi_or (pi_list (pv 1)) (pi_tup (pv 1))) (blkOk_by (own := [("bits", 5)]) (N := ["many", "some", "lines", "mask", "worths", "bits"]) (sc := defScope s_law_common_flat) (by decide +kernel)) (fun _ _ _ _ _ => (pg_name (i := 5) sc_law_common_flat.nd rfl (.inl rfl))) (fun _ _ _ _ _ => pts_nil) (fun _ _ _ _ _ => (pe_callC c_law_worth (hr.mono (by decide)) hg (by rfl) (pa_cons (pe_callC c_law_row (hr.mono (by decide)) hg (by rfl) (pa_cons (pv 3) pa_nil)) (pa_cons (pv 5) pa_nil))))) pa_nil)) pa_nil)))
          (pss_one
          (ps_expr (pe_bm PySem.F.plainAttrs_list PySem.F.slot_list_extend PySem.F.type_list_extend mt_extend (pv 2) (pa_cons (pe_op op_rep (pe_lst (pa_cons (pe_tup (pa_cons (pe_callC c_law_row (hr.mono (by decide)) hg (by rfl) (pa_cons (pv 3) pa_nil)) (pa_cons (pe_ix ix_list (pv 4) pe_int (fun _ _ => rfl)) pa_nil))) pa_nil)) (pe_callTy call_int1 (by rfl) T.z_int (by decide +kernel) (pa_cons (pe_cmpR op_eq (pe_callB call_len_seq (by rfl) T.z_len (by decide +kernel) (pa_cons (pv 4) pa_nil)) pe_int (nomark _)) pa_nil))) pa_nil))))))
        (pss_one
        (ps_ret (pe_callC c_law_flat_of (hr.mono (by decide)) hg (by rfl) (pa_cons (pv 2) pa_nil)))))), ?_⟩
    have lP := Paired.len hP
    have p5 : 2 ^ n ≤ 2 ^ 5 := Nat.pow_le_pow_right (by decide) n5
    have p0 : 0 < 2 ^ n := Nat.two_pow_pos n
    have en : (1 : Int) * 2 ^ ((n : Int).toNat) = ((2 ^ n : Nat) : Int) := shl_one n
    have ec : ((1 : Int) * 2 ^ ((n : Int).toNat) - 1).toNat = 2 ^ n - 1 := by rw [en]; omega
    refine ⟨Nat.zero_le _, fun ll nll => ?_⟩
    refine ⟨_, rfl, _, _, rfl, rfl, ⟨by omega, by omega, by decide⟩, 1, _, rfl, ⟨by decide, by decide, by rw [en]; omega, by rw [en]; omega⟩, ?_⟩
    rw [ec]
    refine for_range (lo := 1) (n := 2 ^ n - 1) (fun i σ H => ∃ zs ls y3 y4, σ = [some (.int (n : Int)), some (.ref a), some (.ref ll), y3, y4, none] ∧ Same G H ∧ H ll = some (.lst zs) ∧ Paired (LineV K H) zs ls ∧ zs.length ≤ i ∧
        (∀ l ∈ ls, l.1 < 2 ^ n ∧ l.2 < 2) ∧ (∀ l ∈ ls, ∀ s ∈ L, holdsL l (fS n s)) ∧ ∀ l : Nat × Nat, l.1 ≤ i → l.1 ≠ 0 → l.2 < 2 → (∀ s ∈ L, holdsL l (fS n s)) → l ∈ ls)
      ⟨[], [], _, _, rfl, same_new nll, upd_same, .nil, Nat.le_refl _, (fun l h => by cases h), (fun l h => by cases h), fun l h1 h2 => absurd (Nat.le_zero.mp h1) h2⟩ ?_ ?_
    · rintro i σ H hi ⟨zs, ls, y3, y4, rfl, s1, eL, hz, lz, ok1, ok2, ok3⟩
      have im : i + 1 < 2 ^ n := by omega
      have ei : (1 : Int) + (i : Int) = ((i + 1 : Nat) : Int) := by omega
      rw [ei]
      have hS1 := Sq.same s1 hS
      have hP1 : Paired (BitsV K n H) us L := Paired.mono2 (fun _ _ h => BitsV.same s1 h) hP
      have wh : ∀ s b, b < 2 → (wsum (i + 1) (bitsS n s) % 2 = b ↔ holdsL (i + 1, b) (fS n s)) := fun s b hb => by
        rw [← holdsB_iff, ← wsum_holds (l := (i + 1, b)) im hb, decide_eq_true_eq]
      refine seq_iter (a := a) (xs := us) rfl hS1 fun J sj D hD => ?_
      have nD : H D = none := hD
      have gD := same_free s1 hD
      refine lc_seq sj (fun k H' => H' D = some (.lst (iv ((L.take k).map fun s => wsum (i + 1) (bitsS n s) % 2))) ∧ Same H H') ⟨upd_same, same_new hD⟩ (fun k H' h => h.2) ?_ ?_
      · rintro k x H' hk ⟨eD, s2⟩
        obtain ⟨z, hz, hx⟩ := Paired.get hP1 hk
        obtain ⟨zl, ze⟩ := List.getElem?_eq_some_iff.mp hz
        obtain ⟨tb, rfl, htb⟩ := BitsV.same s2 hx
        refine ⟨rfl, _, rfl, i + 1, rfl, Nat.lt_of_lt_of_le im (Nat.pow_le_pow_right (by decide) (by omega)), fun H2 p s3 np ep => ?_⟩
        refine ⟨_, rfl, .ref p, tb, i + 1, bitsS n z, rfl, ⟨p, rfl, .inl (.inl ep)⟩, .inr (sqT_same s3 htb), (fun u hu => by rw [bitsS_len]; exact bits_below im hu), fun H3 s4 => ?_⟩
        have eD3 := s4 _ _ (s3 _ _ eD)
        refine ⟨_, eD3, ?_, ?_, same_mut ((s2.trans s3).trans s4) hD⟩
        · rw [iv_len, List.length_map, List.length_take]
          exact small1000 (by omega)
        · rw [upd_same, List.take_succ_eq_append_getElem zl, ze, List.map_append]
          unfold iv
          rw [List.map_append]
          rfl
      rintro H1 ⟨eD, s2⟩
      rw [lP, List.take_length] at eD
      have eW : iv (L.map fun s => wsum (i + 1) (bitsS n s) % 2) = ((L.map fun s => wsum (i + 1) (bitsS n s) % 2).map Int.ofNat).map V.int := iv_ints _
      refine ⟨D, (L.map fun s => wsum (i + 1) (bitsS n s) % 2).map Int.ofNat, rfl, .inl (.inl (by rw [← eW]; exact eD)), by rw [List.length_map, List.length_map]; omega, fun st ct nst hct => ?_⟩
      rw [List.length_map, List.length_map] at hct
      change tNil _ (upd H1 st (SetO w st (fun j => decide (j ∈ (L.map fun s => wsum (i + 1) (bitsS n s) % 2).map Int.ofNat)) ct)) _
      refine ⟨st, _, ct, rfl, upd_same, by omega, fun ns q hs hmem hlen nq => ?_⟩
      have s3 := same_new (o := SetO w st (fun j => decide (j ∈ (L.map fun s => wsum (i + 1) (bitsS n s) % 2).map Int.ofNat)) ct) nst
      have s4 := same_new (o := .lst (ns.map V.int)) nq
      have eq := upd_same (H := upd H1 st (SetO w st (fun j => decide (j ∈ (L.map fun s => wsum (i + 1) (bitsS n s) % 2).map Int.ofNat)) ct)) (a := q) (o := .lst (ns.map V.int))
      have sA := (s1.trans s2).trans (s3.trans s4)
      have eL4 := (s2.trans (s3.trans s4)) _ _ eL
      have hz4 := lines_same (s2.trans (s3.trans s4)) hz
      generalize upd (upd H1 st (SetO w st (fun j => decide (j ∈ (L.map fun s => wsum (i + 1) (bitsS n s) % 2).map Int.ofNat)) ct)) q (.lst (ns.map V.int)) = H4 at eq sA eL4 hz4 ⊢
      have mem : ∀ z : Int, z ∈ ns ↔ ∃ s ∈ L, ((wsum (i + 1) (bitsS n s) % 2 : Nat) : Int) = z := fun z => by
        rw [hmem, decide_eq_true_eq, List.map_map, List.mem_map]
        rfl
      obtain ⟨t0, ht0⟩ := List.exists_mem_of_ne_nil L L0
      obtain ⟨w0, ns', rfl⟩ : ∃ w0 ns', ns = w0 :: ns' := by
        cases ns with
        | nil => exact absurd ((mem _).mpr ⟨t0, ht0, rfl⟩) List.not_mem_nil
        | cons x r => exact ⟨x, r, rfl⟩
      obtain ⟨t1, ht1, ew⟩ := (mem w0).mp List.mem_cons_self
      have w2 : wsum (i + 1) (bitsS n t1) % 2 < 2 := Nat.mod_lt _ (by decide)
      generalize wsum (i + 1) (bitsS n t1) % 2 = w1 at ew w2
      subst ew
      have hq : SqL K H4 q (((w1 : Int) :: ns').map V.int) := .inl (.inl eq)
      refine ⟨_, rfl, .inl ⟨rfl, zs, .inl (.inl eL4)⟩, _, rfl, i + 1, rfl, Nat.lt_of_lt_of_le im (Nat.pow_le_pow_right (by decide) (by omega)), fun H5 p s5 np ep => ?_⟩
      refine ⟨_, rfl, q, _, 0, .int (w1 : Int), rfl, rfl, sqL_same s5 hq, atI_nat (j := 0) rfl, (by show 2 ≤ sizeLine; decide), fun t nt => ⟨(by show 1 ≤ sizeLine; decide), fun l1 nl1 => ?_⟩⟩
      have s6 := same_new (o := .tup [.ref p, V.int (w1 : Int)]) nt
      have s7 := same_new (o := .lst [.ref t]) nl1
      have hline : LineV K (upd (upd H5 t (.tup [.ref p, V.int (w1 : Int)])) l1 (.lst [.ref t])) (.ref t) (i + 1, w1) := ⟨t, .ref p, rfl, .inl (.inl (s7 _ _ upd_same)), ⟨p, rfl, .inl (.inl ((s6.trans s7) _ _ ep))⟩⟩
      have el1 := upd_same (H := upd H5 t (.tup [.ref p, V.int (w1 : Int)])) (a := l1) (o := .lst [.ref t])
      have s57 := s5.trans (s6.trans s7)
      generalize upd (upd H5 t (.tup [.ref p, V.int (w1 : Int)])) l1 (.lst [.ref t]) = H7 at hline el1 s57 ⊢
      refine ⟨_, rfl, q, _, rfl, .inl (sqL_same s57 hq), rfl, .inr ⟨_, rfl, ?_⟩⟩
      have eL7 := s57 _ _ eL4
      have hz7 := lines_same s57 hz4
      have sG := sA.trans s57
      by_cases one : ns' = []
      · subst one
        refine ⟨l1, 1, [.ref t], rfl, rfl, el1, by decide, by decide, (by show 1 ≤ sizeLine; decide), fun r nr => ?_⟩
        have s8 := same_new (o := .lst (List.replicate (1 : Int).toNat [V.ref t]).flatten) nr
        have er := upd_same (H := H7) (a := r) (o := .lst (List.replicate (1 : Int).toNat [V.ref t]).flatten)
        generalize upd H7 r (.lst (List.replicate (1 : Int).toNat [V.ref t]).flatten) = H8 at s8 er ⊢
        have eL8 := s8 _ _ eL7
        refine ⟨ll, r, zs, _, rfl, rfl, eL8, er, ?_, zs ++ [.ref t], ls ++ [(i + 1, w1)], _, _, rfl, same_mut (sG.trans s8) nll, upd_same, ?_, ?_, ?_, ?_, ?_⟩
        · show zs.length + 1 ≤ sizeLine
          exact Nat.le_of_lt (small1000 (by omega))
        · exact PySem.Paired.snoc (lines_but eL8 But.at_ (lines_same s8 hz7)) (LineV.but eL8 But.at_ (hline.same s8))
        · rw [List.length_append]
          show zs.length + 1 ≤ i + 1
          omega
        · intro l h
          rcases List.mem_append.mp h with h | h
          · exact ok1 l h
          · rw [List.mem_singleton.mp h]
            exact ⟨im, w2⟩
        · intro l h s hs
          rcases List.mem_append.mp h with h | h
          · exact ok2 l h s hs
          · rw [List.mem_singleton.mp h]
            refine (wh s w1 w2).mp ?_
            have := List.mem_singleton.mp ((mem _).mpr ⟨s, hs, rfl⟩)
            exact Int.ofNat.inj this
        · intro l h1 h2 h3 h4
          by_cases e : l.1 ≤ i
          · exact List.mem_append_left _ (ok3 l e h2 h3 h4)
          · have e : l.1 = i + 1 := by omega
            refine List.mem_append_right _ (List.mem_singleton.mpr ?_)
            obtain ⟨l1, l2⟩ := l
            simp only at e h3 h4
            subst e
            have a1 := (wh t0 l2 h3).mpr (h4 t0 ht0)
            have := List.mem_singleton.mp ((mem _).mpr ⟨t0, ht0, rfl⟩)
            rw [a1] at this
            rw [Int.ofNat.inj this]
      · have ln : ((w1 : Int) :: ns').length ≠ 1 := fun z => one (List.length_eq_zero_iff.mp (by rw [List.length_cons] at z; omega))
        have ek : decide (V.int (((((w1 : Int) :: ns').map V.int).length : Nat) : Int) = V.int 1) = false := decide_eq_false fun z => by
          injection z with z
          rw [List.length_map] at z
          omega
        rw [ek]
        refine ⟨l1, 0, [.ref t], rfl, rfl, el1, by decide, by decide, (by show 0 ≤ sizeLine; decide), fun r nr => ?_⟩
        have s8 := same_new (o := .lst (List.replicate (0 : Int).toNat [V.ref t]).flatten) nr
        have er := upd_same (H := H7) (a := r) (o := .lst (List.replicate (0 : Int).toNat [V.ref t]).flatten)
        generalize upd H7 r (.lst (List.replicate (0 : Int).toNat [V.ref t]).flatten) = H8 at s8 er ⊢
        have eL8 := s8 _ _ eL7
        refine ⟨ll, r, zs, _, rfl, rfl, eL8, er, ?_, zs ++ [], ls, _, _, rfl, same_mut (sG.trans s8) nll, upd_same, ?_, ?_, ok1, ok2, ?_⟩
        · show zs.length + 0 ≤ sizeLine
          exact Nat.le_of_lt (small1000 (by omega))
        · rw [List.append_nil]
          exact lines_but eL8 But.at_ (lines_same s8 hz7)
        · rw [List.append_nil]
          omega
        · intro l h1 h2 h3 h4
          by_cases e : l.1 ≤ i
          · exact ok3 l e h2 h3 h4
          · have e : l.1 = i + 1 := by omega
            obtain ⟨l1, l2⟩ := l
            simp only at e h3 h4
            subst e
            refine absurd ?_ one
            have all : ∀ z ∈ (w1 : Int) :: ns', z = ((l2 : Nat) : Int) := fun z hz => by
              obtain ⟨s, hs', e⟩ := (mem z).mp hz
              rw [← e, (wh s l2 h3).mpr (h4 s hs')]
            cases ns' with
            | nil => rfl
            | cons y r =>
              have a1 := all _ List.mem_cons_self
              have a2 := all y (List.mem_cons_of_mem _ List.mem_cons_self)
              have := (List.pairwise_cons.mp hs).1 y List.mem_cons_self
              omega
    · rintro σ H ⟨zs, ls, y3, y4, rfl, s1, eL, hz, lz, ok1, ok2, ok3⟩
      obtain ⟨gs, eg, hg⟩ := hull_common (by omega) L0 ok1 ok2 fun l h1 h2 h3 h4 => ok3 l (by omega) h2 h3 h4
      refine ⟨_, rfl, ll, zs, ls, rfl, .inl (.inl eL), hz, (fun l h => ⟨Nat.lt_of_lt_of_le (ok1 l h).1 (Nat.pow_le_pow_right (by decide) (by omega)), (ok1 l h).2⟩), fun H2 u s2 hu => ?_⟩
      rw [eg] at hu
      exact kk H2 u gs (s1.trans s2) hu hg
end
end Es
set_option Elab.async false
set_option linter.all false
set_option maxRecDepth 100000
set_option maxHeartbeats 4000000
namespace Es
open PySem PySem.Spec PyProof.Rows L2
section
variable {P : Program} {w : World} {K : PySem.W.Frag} {mg : Str → Option Value} {base : Heap}
theorem ok_worth_of {f : Addr} {fd : FuncData} (F : Fun K "worth_of" "worth_of" s_worth_of f fd) (T : Txt mg)  : FnG P w K mg base 1 f fd ["row", "bits"] (sp_worth_of K) := by
  refine okG F sc_worth_of (fun h => ?_) (fun cdv B out t0 G ys R E hr hg h => ?_)
  · obtain ⟨v, b, m, bs, rfl, _⟩ := h
    rfl
  · obtain ⟨v, b, m, bs, rfl, ⟨p, rfl, hp⟩, hb, hlt, k⟩ := h
    refine ⟨_, (pss_one
        (ps_ret (pe_op op_and (pe_callB (cr_sum rfl) (by rfl) T.z_sum (by decide +kernel) (pa_cons (pe_lc (own := [("unknown", 2)]) rfl sc_worth_of.nd (pi_tup (pv 0)) (blkOk_by (own := [("unknown", 2)]) (N := ["row", "bits", "unknown"]) (sc := defScope s_worth_of) (by decide +kernel)) (fun _ _ _ _ _ => (pg_name (i := 2) sc_worth_of.nd rfl (.inl rfl))) (fun _ _ _ _ _ => pts_nil) (fun _ _ _ _ _ => (pe_ix (r := rIxT K) ix_tup (pv 1) (pv 2) (fun _ _ => rfl)))) pa_nil)) pe_int))), ?_⟩
    refine ⟨_, rfl, p, rfl, ⟨_, hp⟩, fun D hD => ?_⟩
    refine lc_tup (K := K) (a := p) (xs := iv (bts m)) (fun i H => H D = some (.lst (iv (((bts m).take i).map fun u => bs.getD u 0))) ∧ Same G H) ⟨upd_same, same_new hD⟩ (fun i H _ h => sqT_same h.2 hp) ?_ ?_
    · rintro i x H hi ⟨ea, sa⟩
      obtain ⟨u, hu1, rfl⟩ := iv_get hi
      have hil := (List.getElem?_eq_some_iff.mp hu1).1
      have hu2 := hlt u (List.mem_of_getElem? hu1)
      have at1 : (iv bs)[u]? = some (.int ((bs.getD u 0 : Nat) : Int)) := by
        unfold iv
        rw [List.getElem?_map, List.getElem?_eq_getElem hu2, List.getD_eq_getElem?_getD, List.getElem?_eq_getElem hu2]
        rfl
      refine ⟨rfl, _, rfl, _, rfl, b, _, _, _, rfl, rfl, sqT_same sa hb, atI_nat at1, iv (((bts m).take i).map fun u => bs.getD u 0), ea, ?_, ?_, same_mut sa hD⟩
      · rw [iv_len, List.length_map, List.length_take]
        have := bts_len m
        exact small1000 (by omega)
      · rw [upd_same, List.take_succ_eq_append_getElem hil, (List.getElem?_eq_some_iff.mp hu1).2]
        simp [iv]
    · rintro H ⟨ea, sa⟩
      rw [iv_len, List.take_length, iv_ints] at ea
      refine ⟨D, _, rfl, .inl (.inl ea), ?_⟩
      rw [sum_nat]
      refine ⟨_, _, rfl, rfl, ?_⟩
      show R (V.int (Builtin.bitAnd _ 1)) H
      rw [and_one]
      exact k H sa
end
end Es
set_option Elab.async false
set_option linter.all false
set_option maxRecDepth 100000
set_option maxHeartbeats 4000000
namespace Es
open PySem PySem.Spec PyProof.Rows L2
section
variable {P : Program} {w : World} {K : PySem.W.Frag} {mg : Str → Option Value} {base : Heap}
theorem ok_holds {f : Addr} {fd : FuncData} (F : Fun K "holds" "holds" s_holds f fd) (T : Txt mg) (c_worth_of : CalleeOf P w K mg base 1 "worth_of" ["row", "bits"] (sp_worth_of K)) : FnG P w K mg base 2 f fd ["line", "bits"] (sp_holds K) := by
  refine okG F sc_holds (fun h => ?_) (fun cdv B out t0 G ys R E hr hg h => ?_)
  · obtain ⟨v, b, l, bs, rfl, _⟩ := h
    rfl
  · obtain ⟨v, b, l, bs, rfl, hv, hb, hlt, kk⟩ := h
    refine ⟨_, (pss_cons
        (ps_asg (pv 0) (pg_tup (by rfl) (pgs_cons (pg_name (i := 2) sc_holds.nd rfl (.inl rfl)) (pgs_cons (pg_name (i := 3) sc_holds.nd rfl (.inl rfl)) pgs_nil))))
        (pss_one
        (ps_ret (pe_cmpR op_eq (pe_callC c_worth_of (hr.mono (by decide)) hg (by rfl) (pa_cons (pv 2) (pa_cons (pv 1) pa_nil))) (pv 3) (nomark _))))), ?_⟩
    obtain ⟨t, r, rfl, ht, hr'⟩ := hv
    refine ⟨_, rfl, t, _, rfl, ht, rfl, _, _, rfl, _, _, rfl, rfl, ?_⟩
    refine ⟨_, rfl, _, rfl, r, b, l.1, bs, rfl, hr', hb, hlt, fun H1 s1 => ?_⟩
    refine ⟨_, rfl, rfl, ?_⟩
    have e : decide (V.int ((wsum l.1 bs % 2 : Nat) : Int) = V.int (l.2 : Int)) = decide (wsum l.1 bs % 2 = l.2) := by
      rw [decide_eq_decide]
      constructor
      · intro z
        have := V.int.inj z
        omega
      · intro z
        rw [z]
    rw [e]
    exact kk _ s1
end
end Es
set_option Elab.async false
set_option linter.all false
set_option maxRecDepth 100000
set_option maxHeartbeats 4000000
namespace Es
open PySem PySem.Spec PyProof.Rows L2
section
variable {P : Program} {w : World} {K : PySem.W.Frag} {mg : Str → Option Value} {base : Heap}
theorem ok_together {f : Addr} {fd : FuncData} (F : Fun K "together" "together" s_together f fd) (T : Txt mg)  : FnG P w K mg base 1 f fd ["sums"] (sp_together K) := by
  refine okG F sc_together (fun h => ?_) (fun cdv B out t0 G ys R E hr hg h => ?_)
  · obtain ⟨a, us, ms, rfl, _⟩ := h
    rfl
  · obtain ⟨a, us, ms, rfl, hS, hP, hm, k⟩ := h
    have hu := hu_of hr
    refine ⟨_, (pss_cons
        (ps_set (i := 1) sc_together.nd rfl (Or.inl rfl) pe_dnewK)
        (pss_cons
        (ps_for PassesOwn.never rfl (pi_list (pv 0)) (pg_name (i := 2) sc_together.nd rfl (.inl rfl))
        (pss_one
          (ps_for PassesOwn.never rfl (pi_tup (pv 2)) (pg_name (i := 3) sc_together.nd rfl (.inl rfl))
          (pss_one
            (ps_if (pt_cmp (pc_din hu (pv 3) (pv 1)))
            (pss_one
              (ps_ddel (pv 1) (pv 3)))
            (pss_one
              (ps_dput hu (pv 1) (pv 3) pe_bl rfl)))))))
        (pss_one
        (ps_ret (pe_callTy call_tuple_of (by rfl) T.z_tuple (by decide +kernel) (pa_cons (pe_callB (call_sortedDI rfl) (by rfl) T.z_sorted (by decide +kernel) (pa_cons (pv 1) pa_nil)) pa_nil)))))), ?_⟩
    intro d hd
    refine ⟨_, rfl, a, rfl, ⟨us, (same_new hd).seq hS⟩, for_list (K := K) (a := a) (xs := us)
      (fun i σ H2 => ∃ kvs y2 y3, σ = [some (.ref a), some (.ref d), y2, y3] ∧ Same G H2 ∧ H2 d = some (.dK kvs) ∧ DictM kvs (xall (ms.take i)))
      ⟨[], none, none, rfl, same_new hd, upd_same, dictM_nil⟩ (fun i σ H2 _ ⟨_, _, _, _, s2, _⟩ => s2.seq hS) ?_ ?_⟩
    · rintro i x σ H2 hi ⟨kvs, y2, y3, rfl, s2, ed, DM⟩
      obtain ⟨m, hmi, ⟨p, rfl, hp⟩⟩ := Paired.get hP hi
      have hmm : m < 2 ^ 63 := hm m (List.mem_of_getElem? hmi)
      refine ⟨_, rfl, p, rfl, ⟨_, sqT_same s2 hp⟩, for_tup (K := K) (a := p) (xs := iv (bts m))
        (fun j σ H3 => ∃ kvs y3, σ = [some (.ref a), some (.ref d), some (.ref p), y3] ∧ Same G H3 ∧ H3 d = some (.dK kvs) ∧ DictM kvs (xall (ms.take i) ^^^ msk ((bts m).take j)))
        ⟨kvs, y3, rfl, s2, ed, by simpa [msk, xall] using DM⟩ (fun j σ H3 _ ⟨_, _, _, s3, _⟩ => sqT_same s3 hp) ?_ ?_⟩
      · rintro j y σ H3 hj ⟨kvs3, y3', rfl, s3, ed3, DM3⟩
        obtain ⟨u, hu1, rfl⟩ := iv_get hj
        have hum := mem_bts.mp (List.mem_of_getElem? hu1)
        have hv := dictM_val DM3 hum.1
        have next : xall (ms.take i) ^^^ msk ((bts m).take (j + 1)) = (xall (ms.take i) ^^^ msk ((bts m).take j)) ^^^ 2 ^ u := by
          rw [msk_take hu1, Nat.xor_assoc]
        refine ⟨_, rfl, _, rfl, d, _, rfl, DGet.k (k := Sum.inl (u : Int)) ed3, _, rfl, ?_⟩
        cases hb : (xall (ms.take i) ^^^ msk ((bts m).take j)).testBit u with
        | true =>
          rw [hb] at hv
          rw [hv]
          refine iteT ?_
          refine ⟨_, rfl, _, rfl, d, kvs3, Sum.inl (u : Int), rfl, ed3, rfl, hv, ?_⟩
          refine ⟨_, _, rfl, same_mut s3 hd, upd_same, ?_⟩
          rw [next]
          exact dictM_drop DM3 hb
        | false =>
          rw [hb] at hv
          rw [hv]
          refine iteF ?_
          refine ⟨_, rfl, _, rfl, d, _, rfl, DPut.k (k := Sum.inl (u : Int)) ed3 (small1000 (by have := dictM_len DM3; omega)), ?_⟩
          refine ⟨_, _, rfl, same_mut s3 hd, upd_same, ?_⟩
          rw [next]
          exact dictM_put DM3 hum.1 hb
      · rintro σ H3 ⟨kvs3, y3', rfl, s3, ed3, DM3⟩
        refine ⟨kvs3, _, _, rfl, s3, ed3, ?_⟩
        rw [xall_take hmi]
        rw [iv_len, List.take_length, msk_bts hmm] at DM3
        exact DM3
    · rintro σ H2 ⟨kvs, y2, y3, rfl, s2, ed, DM⟩
      have e0 : us.length = ms.length := Paired.len hP
      rw [e0, List.take_length] at DM
      obtain ⟨ks, k1, k2, k3⟩ := dictM_keys DM
      refine ⟨_, rfl, d, kvs, ks, rfl, .inl ed, k1, k2, fun ys p hp hs np => ?_⟩
      refine ⟨p, _, rfl, .inl ⟨.inl (.inl upd_same), fun q nq => ?_⟩⟩
      rw [k3 ys hp hs]
      have s3 := (s2.trans (same_new (o := .lst (ys.map V.int)) np)).trans (same_new (o := .tup (iv (bts (xall ms)))) nq)
      rw [k3 ys hp hs] at s3
      exact k _ q s3 (s2.free (Same.free (same_new np) nq)) upd_same
end
end Es
set_option Elab.async false
set_option linter.all false
set_option maxRecDepth 100000
set_option maxHeartbeats 4000000
namespace Es
open PySem PySem.Spec PyProof.Rows L2
section
variable {P : Program} {w : World} {K : PySem.W.Frag} {mg : Str → Option Value} {base : Heap}
theorem ok_both {f : Addr} {fd : FuncData} (F : Fun K "_both" "_both" s_both f fd) (T : Txt mg) (c_together : CalleeOf P w K mg base 1 "together" ["sums"] (sp_together K)) : FnG P w K mg base 2 f fd ["one", "other"] (sp_both K) := by
  refine okG F sc_both (fun h => ?_) (fun cdv B out t0 G ys R E hr hg h => ?_)
  · obtain ⟨v, u, l, k, rfl, _⟩ := h
    rfl
  · obtain ⟨v, u, l, k, rfl, hv, hu, l63, k63, kk⟩ := h
    refine ⟨_, (pss_one
        (ps_ret (pe_tup (pa_cons (pe_callC c_together (hr.mono (by decide)) hg (by rfl) (pa_cons (pe_lst (pa_cons (pe_ix ix_tup (pv 0) pe_int (fun _ _ => rfl)) (pa_cons (pe_ix ix_tup (pv 1) pe_int (fun _ _ => rfl)) pa_nil))) pa_nil)) (pa_cons (pe_op op_xor (pe_ix ix_tup (pv 0) pe_int (fun _ _ => rfl)) (pe_ix ix_tup (pv 1) pe_int (fun _ _ => rfl))) pa_nil))))), ?_⟩
    obtain ⟨tv, rv, rfl, htv, hrv⟩ := hv
    obtain ⟨tu, ru, rfl, htu, hru⟩ := hu
    refine ⟨_, rfl, tv, _, 0, _, rfl, rfl, htv, atI_nat (j := 0) rfl, _, rfl, tu, _, 0, _, rfl, rfl, htu, atI_nat (j := 0) rfl, (by show 2 ≤ sizeLine; decide), fun q nq => ?_⟩
    have s1 := same_new (o := .lst [rv, ru]) nq
    refine ⟨q, [rv, ru], [l.1, k.1], rfl, .inl (.inl upd_same), .cons (hrv.same s1) (.cons (hru.same s1) .nil), ?_, fun H2 p s2 np ep => ?_⟩
    · intro m hm
      rcases List.mem_cons.mp hm with rfl | hm
      · exact l63
      rcases List.mem_cons.mp hm with rfl | hm
      · exact k63
      · cases hm
    have s12 := s1.trans s2
    refine ⟨_, rfl, tv, _, 1, _, rfl, rfl, sqT_same s12 htv, atI_nat (j := 1) rfl, _, rfl, tu, _, 1, _, rfl, rfl, sqT_same s12 htu, atI_nat (j := 1) rfl, ?_⟩
    refine ⟨_, _, rfl, rfl, (by show 2 ≤ sizeLine; decide), fun t nt => ?_⟩
    show R (V.ref t) (upd H2 t (.tup [V.ref p, V.int (Builtin.bitXor (l.2 : Int) (k.2 : Int))]))
    rw [xor_nat]
    have s3 := same_new (o := .tup [V.ref p, V.int ((l.2 ^^^ k.2 : Nat) : Int)]) nt
    refine kk _ t (s12.trans s3) (s12.free nt) ⟨t, .ref p, rfl, .inl (.inl upd_same), p, rfl, .inl (.inl ?_)⟩
    rw [s3 _ _ ep]
    simp [xall]
end
end Es
set_option Elab.async false
set_option linter.all false
set_option maxRecDepth 100000
set_option maxHeartbeats 4000000
namespace Es
open PySem PySem.Spec PyProof.Rows L2
section
variable {P : Program} {w : World} {K : PySem.W.Frag} {mg : Str → Option Value} {base : Heap}
theorem ok_without_heads {f : Addr} {fd : FuncData} (F : Fun K "_without_heads" "_without_heads" s_without_heads f fd) (T : Txt mg) (c_both : CalleeOf P w K mg base 2 "_both" ["one", "other"] (sp_both K)) : FnG P w K mg base 3 f fd ["flat", "line"] (sp_without_heads K) := by
  refine okG F sc_without_heads (fun h => ?_) (fun cdv B out t0 G ys R E hr hg h => ?_)
  · obtain ⟨a, us, hs, v, l, rfl, _⟩ := h
    rfl
  · obtain ⟨a, us, hs, v, l, rfl, hL, hv, l63, kk⟩ := h
    refine ⟨_, (pss_cons
        (ps_set (i := 2) sc_without_heads.nd rfl (Or.inl rfl) (pv 1))
        (pss_cons
        (ps_for PassesOwn.never rfl (pi_or (pi_list (pv 0)) (pi_tup (pv 0))) (pg_name (i := 3) sc_without_heads.nd rfl (.inl rfl))
        (pss_one
          (ps_if (pt_cmpR op_in_seq (pe_ix ix_tup (pe_ix ix_tup (pv 3) pe_int (fun _ _ => rfl)) pe_int (fun _ _ => rfl)) (pe_ix ix_tup (pv 1) pe_int (fun _ _ => rfl)) (by rfl))
          (pss_one
            (ps_set (i := 2) sc_without_heads.nd rfl (Or.inl rfl) (pe_callC c_both (hr.mono (by decide)) hg (by rfl) (pa_cons (pv 2) (pa_cons (pv 3) pa_nil)))))
          pss_nil)))
        (pss_one
        (ps_ret (pv 2))))), ?_⟩
    obtain ⟨tv, rv, rfl, htv, ⟨pv_, rfl, hpv⟩⟩ := hv
    have lenP : us.length = hs.length := by
      have := Paired.len hL.2.1
      rwa [List.length_map] at this
    have whT : ∀ i, ((hs.take i).foldl (wh1 l.1) l).1 < 2 ^ 63 := fun i => wh_lt (hs := hs.take i) (fun e he => (hL.2.2 e (List.mem_of_mem_take he)).2) l l63
    refine ⟨_, rfl, ?_⟩
    rcases hL.1 with hq | hq
    · refine .inl ⟨_, rfl, a, rfl, ⟨us, hq⟩, for_list (K := K) (a := a) (xs := us) (fun i σ H => ∃ vr y3, σ = [some (.ref a), some (.ref tv), some vr, y3] ∧ LineV K H vr ((hs.take i).foldl (wh1 l.1) l) ∧ Same G H)
        ⟨_, _, rfl, ⟨tv, _, rfl, htv, ⟨pv_, rfl, hpv⟩⟩, Same.refl _⟩ (fun i σ H _ ⟨_, _, _, _, s⟩ => s.seq hq) ?_ ?_⟩
      · rintro i x σ H hi ⟨vr, y3, rfl, hvr, s1⟩
        obtain ⟨k, hk, hx⟩ := Paired.get hL.2.1 hi
        rw [List.getElem?_map] at hk
        obtain ⟨e, he, rfl⟩ := Option.map_eq_some_iff.mp hk
        have hil := (List.getElem?_eq_some_iff.mp he).1
        obtain ⟨el, e63⟩ := hL.2.2 e (List.mem_of_getElem? he)
        obtain ⟨tx, rx, rfl, htx, ⟨px, rfl, hpx⟩⟩ := hx
        obtain ⟨tl, htl⟩ := low_cons el
        have eb : iv (bts e.2.1) = .int (e.1 : Int) :: iv tl := by rw [htl]; rfl
        have tk : (hs.take (i + 1)).foldl (wh1 l.1) l = wh1 l.1 ((hs.take i).foldl (wh1 l.1) l) e := by
          rw [List.take_succ_eq_append_getElem hil, (List.getElem?_eq_some_iff.mp he).2, List.foldl_append]
          rfl
        refine ⟨_, rfl, tx, _, 0, _, rfl, rfl, sqT_same s1 htx, atI_nat (j := 0) rfl, px, _, 0, _, rfl, rfl, sqT_same s1 hpx, (by rw [eb]; exact atI_nat (j := 0) rfl), _, rfl, tv, _, 0, _, rfl, rfl, sqT_same s1 htv, atI_nat (j := 0) rfl, pv_, iv (bts l.1), rfl, .inr (sqT_same s1 hpv), rfl, flat_iv _, _, rfl, ite2 (fun hc => ?_) (fun hc => ?_)⟩
        · have hc : inV (.int (e.1 : Int)) (iv (bts l.1)) = true := hc
          rw [in_row (low_iff.mp el).1] at hc
          refine ⟨_, rfl, _, rfl, vr, .ref tx, _, e.2, rfl, hvr, ⟨tx, _, rfl, sqT_same s1 htx, ⟨px, rfl, sqT_same s1 hpx⟩⟩, whT i, e63, fun H2 p s2 np hp => ?_⟩
          refine ⟨_, some (V.ref tx), rfl, ?_, s1.trans s2⟩
          rw [tk]
          unfold wh1
          rw [if_pos hc]
          exact hp
        · have hc : ¬ inV (.int (e.1 : Int)) (iv (bts l.1)) = true := hc
          rw [in_row (low_iff.mp el).1] at hc
          refine ⟨_, some (V.ref tx), rfl, ?_, s1⟩
          rw [tk]
          unfold wh1
          rw [if_neg hc]
          exact hvr
      · rintro σ H ⟨vr, y3, rfl, hvr, s1⟩
        rw [lenP, List.take_length] at hvr
        exact ⟨_, rfl, kk _ _ s1 hvr⟩
    · refine .inr ⟨_, rfl, a, rfl, ⟨us, hq⟩, for_tup (K := K) (a := a) (xs := us) (fun i σ H => ∃ vr y3, σ = [some (.ref a), some (.ref tv), some vr, y3] ∧ LineV K H vr ((hs.take i).foldl (wh1 l.1) l) ∧ Same G H)
        ⟨_, _, rfl, ⟨tv, _, rfl, htv, ⟨pv_, rfl, hpv⟩⟩, Same.refl _⟩ (fun i σ H _ ⟨_, _, _, _, s⟩ => sqT_same s hq) ?_ ?_⟩
      · rintro i x σ H hi ⟨vr, y3, rfl, hvr, s1⟩
        obtain ⟨k, hk, hx⟩ := Paired.get hL.2.1 hi
        rw [List.getElem?_map] at hk
        obtain ⟨e, he, rfl⟩ := Option.map_eq_some_iff.mp hk
        have hil := (List.getElem?_eq_some_iff.mp he).1
        obtain ⟨el, e63⟩ := hL.2.2 e (List.mem_of_getElem? he)
        obtain ⟨tx, rx, rfl, htx, ⟨px, rfl, hpx⟩⟩ := hx
        obtain ⟨tl, htl⟩ := low_cons el
        have eb : iv (bts e.2.1) = .int (e.1 : Int) :: iv tl := by rw [htl]; rfl
        have tk : (hs.take (i + 1)).foldl (wh1 l.1) l = wh1 l.1 ((hs.take i).foldl (wh1 l.1) l) e := by
          rw [List.take_succ_eq_append_getElem hil, (List.getElem?_eq_some_iff.mp he).2, List.foldl_append]
          rfl
        refine ⟨_, rfl, tx, _, 0, _, rfl, rfl, sqT_same s1 htx, atI_nat (j := 0) rfl, px, _, 0, _, rfl, rfl, sqT_same s1 hpx, (by rw [eb]; exact atI_nat (j := 0) rfl), _, rfl, tv, _, 0, _, rfl, rfl, sqT_same s1 htv, atI_nat (j := 0) rfl, pv_, iv (bts l.1), rfl, .inr (sqT_same s1 hpv), rfl, flat_iv _, _, rfl, ite2 (fun hc => ?_) (fun hc => ?_)⟩
        · have hc : inV (.int (e.1 : Int)) (iv (bts l.1)) = true := hc
          rw [in_row (low_iff.mp el).1] at hc
          refine ⟨_, rfl, _, rfl, vr, .ref tx, _, e.2, rfl, hvr, ⟨tx, _, rfl, sqT_same s1 htx, ⟨px, rfl, sqT_same s1 hpx⟩⟩, whT i, e63, fun H2 p s2 np hp => ?_⟩
          refine ⟨_, some (V.ref tx), rfl, ?_, s1.trans s2⟩
          rw [tk]
          unfold wh1
          rw [if_pos hc]
          exact hp
        · have hc : ¬ inV (.int (e.1 : Int)) (iv (bts l.1)) = true := hc
          rw [in_row (low_iff.mp el).1] at hc
          refine ⟨_, some (V.ref tx), rfl, ?_, s1⟩
          rw [tk]
          unfold wh1
          rw [if_neg hc]
          exact hvr
      · rintro σ H ⟨vr, y3, rfl, hvr, s1⟩
        rw [lenP, List.take_length] at hvr
        exact ⟨_, rfl, kk _ _ s1 hvr⟩
end
end Es
set_option Elab.async false
set_option linter.all false
set_option maxRecDepth 100000
set_option maxHeartbeats 4000000
namespace Es
open PySem PySem.Spec PyProof.Rows L2
section
variable {P : Program} {w : World} {K : PySem.W.Frag} {mg : Str → Option Value} {base : Heap}
theorem ok_flat_of {f : Addr} {fd : FuncData} (F : Fun K "flat_of" "flat_of" s_flat_of f fd) (T : Txt mg) (c_without_heads : CalleeOf P w K mg base 3 "_without_heads" ["flat", "line"] (sp_without_heads K)) : FnG P w K mg base 4 f fd ["lines"] (sp_flat_ofS K) := by
  refine okG F sc_flat_of (fun h => ?_) (fun cdv B out t0 G ys R E hr hg h => ?_)
  · obtain ⟨a, us, ls, rfl, _⟩ := h
    rfl
  · obtain ⟨a, us, ls, rfl, hS, hP, hl, kk⟩ := h
    refine ⟨_, (pss_cons
        (ps_set (i := 1) sc_flat_of.nd rfl (Or.inl rfl) (pe_lst pa_nil))
        (pss_cons
        (ps_for PassesOwn.never rfl (pi_or (pi_list (pv 0)) (pi_tup (pv 0))) (pg_name (i := 2) sc_flat_of.nd rfl (.inl rfl))
        (pss_cons
          (ps_asg (pe_callC c_without_heads (hr.mono (by decide)) hg (by rfl) (pa_cons (pv 1) (pa_cons (pv 2) pa_nil))) (pg_tup (by rfl) (pgs_cons (pg_name (i := 3) sc_flat_of.nd rfl (.inr rfl)) (pgs_cons (pg_name (i := 4) sc_flat_of.nd rfl (.inr rfl)) pgs_nil))))
          (pss_one
          (ps_if (pt_truth (pv 3) (by intro _; rfl))
          (pss_one
            (ps_set (i := 1) sc_flat_of.nd rfl (Or.inl rfl) (pe_op op_cat (pe_lc (own := [("old", 5)]) rfl sc_flat_of.nd (pi_list (pv 1)) (blkOk_by (own := [("old", 5)]) (N := ["lines", "flat", "line", "row", "bit", "old"]) (sc := defScope s_flat_of) (by decide +kernel)) (fun _ _ _ _ _ => (pg_name (i := 5) sc_flat_of.nd rfl (.inl rfl))) (fun _ _ _ _ _ => pts_nil) (fun _ _ _ _ _ => (pe_callC c_without_heads (hr.mono (by decide)) hg (by rfl) (pa_cons (pe_lst (pa_cons (pe_tup (pa_cons (pv 3) (pa_cons (pv 4) pa_nil))) pa_nil)) (pa_cons (pv 5) pa_nil))))) (pe_lst (pa_cons (pe_tup (pa_cons (pv 3) (pa_cons (pv 4) pa_nil))) pa_nil)))))
          (pss_one
            (ps_if (pt_truth (pv 4) (by intro _; rfl))
            (pss_one
              (ps_ret pe_non))
            pss_nil))))))
        (pss_one
        (ps_ret (pe_callTy call_tuple_of (by rfl) T.z_tuple (by decide +kernel) (pa_cons (pe_callB (cr_sortedData hr.units) (by rfl) T.z_sorted (by decide +kernel) (pa_cons (pv 1) pa_nil)) pa_nil)))))), ?_⟩
    have lenP : us.length = ls.length := Paired.len hP
    refine ⟨Nat.zero_le _, fun f0 nf0 => ?_⟩
    have s0 := same_new (o := .lst []) nf0
    refine for_sq (K := K) (a := a) (j := 0) (xs := us) rfl hS s0
      (fun i σ H => ∃ f fs hs y2 y3 y4, σ = [some (.ref a), some (.ref f), y2, y3, y4, none] ∧ Same G H ∧ H f = some (.lst fs) ∧ Paired (LineV K H) fs (hs.map (·.2)) ∧ lflat (ls.take i) = some hs ∧ hs.length ≤ i)
      ⟨f0, [], [], _, _, _, rfl, s0, upd_same, .nil, rfl, Nat.le_refl _⟩ (fun i σ H ⟨_, _, _, _, _, _, _, s, _⟩ => s) ?_ ?_
    · rintro i x σ H hi ⟨f, fs, hs, y2, y3, y4, rfl, s1, ef, hf, el, li⟩
      obtain ⟨l, hli, hx⟩ := Paired.get hP hi
      obtain ⟨l63, l2⟩ := hl l (List.mem_of_getElem? hli)
      have F := lflat_flat (ls.take i) (fun x hx => hl x (List.mem_of_mem_take hx)) hs el
      have lenF : fs.length = hs.length := by
        have := Paired.len hf
        rwa [List.length_map] at this
      refine ⟨_, rfl, _, rfl, f, fs, hs, x, l, rfl, ⟨.inl (.inl (.inl ef)), hf, fun e he => ⟨F.least e he, (F.red.own e he).2.1⟩⟩, hx.same s1, l63, fun H2 v' s2 hv' => ?_⟩
      obtain ⟨tv, rv, rfl, htv, ⟨pr, rfl, hpr⟩⟩ := hv'
      refine ⟨tv, _, rfl, htv, rfl, _, _, rfl, _, _, rfl, rfl, ?_⟩
      have ef2 := s2 _ _ ef
      have hf2 := lines_same s2 hf
      have s12 := s1.trans s2
      have w63 := (wh_heads F.red l63).1
      have wb := wh_bit F.bit l l2
      have nx : lflat (ls.take (i + 1)) = lstep hs l := by
        rw [lflat_take hli, el]
        rfl
      rw [lstep_eq F.red] at nx
      refine ⟨_, rfl, _, .inr (.inl ⟨_, hpr, rfl⟩), ?_⟩
      rw [emp_low]
      have iln := (List.getElem?_eq_some_iff.mp hli).1
      have h63 : hs.length ≤ 63 := by
        have z := (byHead_perm F.red).length_eq
        unfold byHead at z
        rw [List.length_map] at z
        have z2 : (srt (hs.map (·.1))).length ≤ 63 := by
          have := List.length_filter_le (fun u => decide (u ∈ hs.map (·.1))) (List.range 63)
          simpa [srt] using this
        omega
      cases q : low (wh hs l).1 with
      | some at_ =>
        rw [q] at nx
        refine iteT ?_
        refine ⟨_, rfl, f, rfl, ⟨fs, .inl (.inl ef2)⟩, fun D hD => ?_⟩
        refine lc_list (K := K) (a := f) (xs := fs) (fun j H => ∃ zs, H D = some (.lst zs) ∧ Same H2 H ∧ Paired (LineV K H) zs ((hs.take j).map fun e => wh1 e.2.1 e.2 (at_, wh hs l)))
          ⟨[], upd_same, same_new hD, .nil⟩ (fun j H _ ⟨_, _, s, _⟩ => .inl (.inl (s _ _ ef2))) ?_ ?_
        · rintro j y H hj ⟨zs, eD, s3, hz⟩
          obtain ⟨k, hk, hy⟩ := Paired.get hf2 hj
          rw [List.getElem?_map] at hk
          obtain ⟨e, he, rfl⟩ := Option.map_eq_some_iff.mp hk
          have hjl := (List.getElem?_eq_some_iff.mp he).1
          have em := List.mem_of_getElem? he
          have lz : zs.length = j := by
            have z := Paired.len hz
            rw [List.length_map, List.length_take] at z
            omega
          refine ⟨rfl, _, rfl, _, rfl, (by show 2 ≤ sizeLine; decide), fun t nt => ⟨(by show 1 ≤ sizeLine; decide), fun l1 nl1 => ?_⟩⟩
          have s4 := same_new (o := .tup [V.ref pr, V.int (((wh hs l).2 : Nat) : Int)]) nt
          have s5 := s4.trans (same_new (o := .lst [V.ref t]) nl1)
          have s35 := s3.trans s5
          refine ⟨_, rfl, l1, [V.ref t], [(at_, wh hs l)], y, e.2, rfl, ⟨.inl (.inl (.inl upd_same)), .cons ⟨t, .ref pr, rfl, .inl (.inl (same_new nl1 _ _ upd_same)), ⟨pr, rfl, sqT_same s35 hpr⟩⟩ .nil, ?_⟩, hy.same s35, (F.red.own e em).2.1, fun H6 v6 s6 hv6 => ?_⟩
          · intro x hx
            have hx : x = (at_, wh hs l) := by simpa using hx
            rw [hx]
            exact ⟨q, w63⟩
          have s56 := s5.trans s6
          have eD6 := s56 _ _ eD
          refine ⟨zs, eD6, small1000 (by omega), zs ++ [v6], upd_same, same_mut (s3.trans s56) hD, ?_⟩
          rw [List.take_succ_eq_append_getElem hjl, (List.getElem?_eq_some_iff.mp he).2, List.map_append]
          exact PySem.Paired.snoc (lines_but eD6 But.at_ (lines_same s56 hz)) (LineV.but eD6 But.at_ hv6)
        · rintro H3 ⟨zs, eD, s3, hz⟩
          rw [lenF, List.take_length] at hz
          have lz := Paired.len hz
          rw [List.length_map] at lz
          refine ⟨_, rfl, _, rfl, (by show 2 ≤ sizeLine; decide), fun t nt => ⟨(by show 1 ≤ sizeLine; decide), fun l2 nl2 => ?_⟩⟩
          have s4 := same_new (o := .tup [V.ref pr, V.int (((wh hs l).2 : Nat) : Int)]) nt
          have s5 := s4.trans (same_new (o := .lst [V.ref t]) nl2)
          refine ⟨D, l2, zs, [V.ref t], rfl, rfl, s5 _ _ eD, upd_same, ?_, fun f2 nf2 => ?_⟩
          · show zs.length + 1 ≤ sizeLine
            exact Nat.le_of_lt (small1000 (by omega))
          have s6 := (same_new (o := .lst [V.ref t]) nl2).trans (same_new (o := .lst (zs ++ [V.ref t])) nf2)
          have s46 := s4.trans s6
          refine ⟨f2, zs ++ [V.ref t], lput hs at_ (wh hs l), _, _, _, rfl, s12.trans (s3.trans s46), upd_same, ?_, nx, ?_⟩
          · rw [lput_lines]
            exact PySem.Paired.snoc (lines_same s46 hz) ⟨t, .ref pr, rfl, .inl (.inl (s6 _ _ upd_same)), ⟨pr, rfl, sqT_same (s3.trans s46) hpr⟩⟩
          · unfold lput
            rw [List.length_append, List.length_map]
            show hs.length + 1 ≤ i + 1
            omega
      | none =>
        rw [q] at nx
        refine iteF ⟨_, rfl, _, rfl, ?_⟩
        by_cases z : (wh hs l).2 = 1
        · have nx : lflat (ls.take (i + 1)) = none := nx.trans (if_pos z)
          rw [z]
          refine iteT (kk _ _ s12 ?_)
          rw [lflat_none_take nx]
          rfl
        · have z0 : (wh hs l).2 = 0 := by omega
          have nx : lflat (ls.take (i + 1)) = some hs := nx.trans (if_neg z)
          rw [z0]
          exact iteF ⟨f, fs, hs, _, _, _, rfl, s12, ef2, hf2, nx, by omega⟩
    · rintro σ H ⟨f, fs, hs, y2, y3, y4, rfl, s1, ef, hf, el, li⟩
      rw [lenP, List.take_length] at el
      have F := lflat_flat ls hl hs el
      have lenF : fs.length = (hs.map (·.2)).length := Paired.len hf
      have hv := paired_zip hf
      have e1 : (fs.zip (hs.map (·.2))).map (·.1) = fs := List.map_fst_zip (by omega)
      have e2 : (fs.zip (hs.map (·.2))).map (·.2) = hs.map (·.2) := List.map_snd_zip (by omega)
      have p : ((fs.zip (hs.map (·.2))).map (·.2)).Perm (hs.map (·.2)) := by rw [e2]
      obtain ⟨f1, f2, f3, f4⟩ := sort_facts hv
      refine ⟨_, rfl, f, (fs.zip (hs.map (·.2))).map (fun c => (c.1, lineD c.2)), rfl, ?_, f1, f2, f3, f4, fun q nq => ?_⟩
      · rw [List.map_map]
        show SqL K H f ((fs.zip (hs.map (·.2))).map (·.1))
        rw [e1]
        exact .inl (.inl ef)
      refine ⟨q, _, rfl, .inl ⟨.inl (.inl upd_same), fun t nt => ?_⟩⟩
      have s2 := (same_new nq).trans (same_new (o := .tup ((((fs.zip (hs.map (·.2))).map (fun c => ((c.1, lineD c.2) : V × PyData))).mergeSort (PySem.W.dataLe false (·.2))).map (·.1))) nt)
      refine kk _ _ (s1.trans s2) ?_
      rw [el]
      exact ⟨t, _, rfl, .inl (.inl upd_same), lines_same s2 (sorted_lines F hv p)⟩
end
end Es
set_option Elab.async false
set_option linter.all false
set_option maxRecDepth 100000
set_option maxHeartbeats 4000000
namespace Es
open PySem PySem.Spec PyProof.Rows L2
section
variable {P : Program} {w : World} {K : PySem.W.Frag} {mg : Str → Option Value} {base : Heap}
theorem ok_widened {f : Addr} {fd : FuncData} (F : Fun K "_widened" "_widened" s_widened f fd) (T : Txt mg) (c_holds : CalleeOf P w K mg base 2 "holds" ["line", "bits"] (sp_holds K)) (c_flat_of : CalleeOf P w K mg base 4 "flat_of" ["lines"] (sp_flat_ofS K)) (c_both : CalleeOf P w K mg base 2 "_both" ["one", "other"] (sp_both K)) : FnG P w K mg base 5 f fd ["flat", "bits"] (sp_widened K) := by
  refine okG F sc_widened (fun h => ?_) (fun cdv B out t0 G ys R E hr hg h => ?_)
  · obtain ⟨v, b, n, s, L, hs, rfl, _⟩ := h
    rfl
  · obtain ⟨v, b, n, s, L, hs, rfl, n12, hv, hh, L0, hb, kk⟩ := h
    refine ⟨_, (pss_cons
        (ps_set (i := 2) sc_widened.nd rfl (Or.inr rfl) (pe_lc (own := [("line", 3)]) rfl sc_widened.nd (pi_tup (pv 0)) (blkOk_by (own := [("line", 3)]) (N := ["flat", "bits", "wrong", "line", "right"]) (sc := defScope s_widened) (by decide +kernel)) (fun _ _ _ _ _ => (pg_name (i := 3) sc_widened.nd rfl (.inl rfl))) (fun _ _ _ _ _ => (pts_one (pt_not (pt_val (pe_callC c_holds (hr.mono (by decide)) hg (by rfl) (pa_cons (pv 3) (pa_cons (pv 1) pa_nil))))))) (fun _ _ _ _ _ => (pv 3))))
        (pss_cons
        (ps_if (pt_not (pt_truth (pv 2) (by intro _; rfl)))
        (pss_one
          (ps_ret (pv 0)))
        pss_nil)
        (pss_cons
        (ps_setLc (i := 4) (own := [("line", 3)]) rfl sc_widened.nd rfl rfl (sw_true rfl rfl rfl (by decide +kernel)) (pi_tup (pv 0)) (blkOk_by (own := [("line", 3)]) (N := ["flat", "bits", "wrong", "line", "right"]) (sc := defScope s_widened) (by decide +kernel)) (fun _ _ _ _ _ => (pg_name (i := 3) sc_widened.nd rfl (.inl rfl))) (fun _ _ _ _ _ => (pts_one (pt_val (pe_callC c_holds (hr.mono (by decide)) hg (by rfl) (pa_cons (pv 3) (pa_cons (pv 1) pa_nil)))))) (fun _ _ _ _ _ => (pv 3)))
        (pss_one
        (ps_ret (pe_callC c_flat_of (hr.mono (by decide)) hg (by rfl) (pa_cons (pe_op op_cat (pv 4) (pe_lc (own := [("line", 3)]) rfl sc_widened.nd (pi_list (pe_slice sl_list (pv 2) (po_some pe_int) po_none)) (blkOk_by (own := [("line", 3)]) (N := ["flat", "bits", "wrong", "line", "right"]) (sc := defScope s_widened) (by decide +kernel)) (fun _ _ _ _ _ => (pg_name (i := 3) sc_widened.nd rfl (.inl rfl))) (fun _ _ _ _ _ => pts_nil) (fun _ _ _ _ _ => (pe_callC c_both (hr.mono (by decide)) hg (by rfl) (pa_cons (pe_ix (r := rIxL K) ix_list (pv 2) pe_int (fun _ _ => rfl)) (pa_cons (pv 3) pa_nil)))))) pa_nil))))))), ?_⟩
    have hv0 := hv
    obtain ⟨t, us, rfl, ht, hP⟩ := hv
    have lP := Paired.len hP
    have lc := canon_len hs
    have cm := canonM hh.flat hh.lt
    have bnd : ∀ l ∈ canon hs, ∀ u ∈ bts l.1, u < (bitsS n s).length := fun l hl u hu => by rw [bitsS_len]; exact bits_below (cm l hl).1 hu
    refine ⟨_, rfl, t, rfl, ⟨us, ht⟩, fun D hD => ?_⟩
    refine lc_tup (K := K) (a := t) (xs := us) (fun i H' => ∃ zs, H' D = some (.lst zs) ∧ Same G H' ∧ Paired (LineV K H') zs (((canon hs).take i).filter fun l => !holdsB l (fS n s))) ⟨[], upd_same, same_new hD, .nil⟩ (fun i H' _ ⟨_, _, s, _⟩ => sqT_same s ht) ?_ ?_
    · rintro i x H' hi ⟨zs, eD, s1, hz⟩
      obtain ⟨l, hl, hx⟩ := Paired.get hP hi
      obtain ⟨il, ie⟩ := List.getElem?_eq_some_iff.mp hl
      have ml := List.mem_of_getElem? hl
      have hx1 := hx.same s1
      have lz := Paired.len hz
      have fl := List.length_filter_le (fun l => !holdsB l (fS n s)) ((canon hs).take i)
      rw [List.length_take] at fl
      refine ⟨rfl, _, rfl, _, rfl, x, b, l, bitsS n s, rfl, hx1, sqT_same s1 hb, bnd l ml, fun H2 s2 => ⟨_, rfl, ?_⟩⟩
      rw [wsum_holds (cm l ml).1 (cm l ml).2.2]
      rw [List.take_succ_eq_append_getElem il, ie, List.filter_append]
      have s12 := s1.trans s2
      have eD2 := s2 _ _ eD
      have hz2 := lines_same s2 hz
      cases q : holdsB l (fS n s) with
      | true =>
        refine iteF ⟨zs, eD2, s12, ?_⟩
        rw [List.filter_cons_of_neg (by rw [q]; exact Bool.false_ne_true), List.filter_nil, List.append_nil]
        exact hz2
      | false =>
        refine iteT ⟨_, rfl, zs, eD2, small1000 (by omega), zs ++ [x], upd_same, same_mut s12 hD, ?_⟩
        rw [List.filter_cons_of_pos (by rw [q]; rfl), List.filter_nil]
        exact PySem.Paired.snoc (lines_but eD2 But.at_ hz2) (LineV.but eD2 But.at_ (hx1.same s2))
    rintro H1 ⟨ws, eD, s1, hw⟩
    rw [lP, List.take_length] at hw
    have hw : Paired (LineV K H1) ws (wrongL hs n s) := hw
    have lw := Paired.len hw
    refine ⟨_, rfl, ?_⟩
    cases q : wrongL hs n s with
    | nil =>
      rw [q] at hw
      have hw0 : ws = [] := by
        cases hw
        rfl
      subst hw0
      exact ⟨false, .inl ⟨[], .inl (.inl eD), rfl⟩, iteT ⟨_, rfl, kk H1 _ hs s1 (hv0.same s1) (hull_keep hh q)⟩⟩
    | cons w0 wl =>
      rw [q] at hw lw
      obtain ⟨x0, xs, rfl⟩ : ∃ x0 xs, ws = x0 :: xs := by
        cases hw
        exact ⟨_, _, rfl⟩
      refine ⟨true, .inl ⟨_, .inl (.inl eD), rfl⟩, iteF ?_⟩
      have ht1 := sqT_same s1 ht
      have hP1 := lines_same s1 hP
      have hb1 := sqT_same s1 hb
      refine ⟨_, rfl, t, rfl, ⟨us, ht1⟩, fun D2 hD2 => ?_⟩
      refine lc_tup (K := K) (a := t) (xs := us) (fun i H' => ∃ zs, H' D2 = some (.lst zs) ∧ Same H1 H' ∧ Paired (LineV K H') zs (((canon hs).take i).filter fun l => holdsB l (fS n s))) ⟨[], upd_same, same_new hD2, .nil⟩ (fun i H' _ ⟨_, _, s, _⟩ => sqT_same s ht1) ?_ ?_
      · rintro i x H' hi ⟨zs, eD2, s2, hz⟩
        obtain ⟨l, hl, hx⟩ := Paired.get hP1 hi
        obtain ⟨il, ie⟩ := List.getElem?_eq_some_iff.mp hl
        have ml := List.mem_of_getElem? hl
        have hx1 := hx.same s2
        have lz := Paired.len hz
        have fl := List.length_filter_le (fun l => holdsB l (fS n s)) ((canon hs).take i)
        rw [List.length_take] at fl
        refine ⟨rfl, _, rfl, _, rfl, x, b, l, bitsS n s, rfl, hx1, sqT_same s2 hb1, bnd l ml, fun H3 s3 => ⟨_, rfl, ?_⟩⟩
        rw [wsum_holds (cm l ml).1 (cm l ml).2.2]
        rw [List.take_succ_eq_append_getElem il, ie, List.filter_append]
        have s12 := s2.trans s3
        have eD3 := s3 _ _ eD2
        have hz2 := lines_same s3 hz
        cases q : holdsB l (fS n s) with
        | false =>
          refine iteF ⟨zs, eD3, s12, ?_⟩
          rw [List.filter_cons_of_neg (by rw [q]; exact Bool.false_ne_true), List.filter_nil, List.append_nil]
          exact hz2
        | true =>
          refine iteT ⟨_, rfl, zs, eD3, small1000 (by omega), zs ++ [x], upd_same, same_mut s12 hD2, ?_⟩
          rw [List.filter_cons_of_pos (by exact q), List.filter_nil]
          exact PySem.Paired.snoc (lines_but eD3 But.at_ hz2) (LineV.but eD3 But.at_ (hx1.same s3))
      rintro H2 ⟨rs, eR, s2, hr⟩
      rw [lP, List.take_length] at hr
      have hr : Paired (LineV K H2) rs (rightL hs n s) := hr
      have lr := Paired.len hr
      have fr : (rightL hs n s).length ≤ (canon hs).length := List.length_filter_le _ _
      have fw : (w0 :: wl).length ≤ (canon hs).length := by rw [← q]; exact List.length_filter_le _ _
      rw [List.length_cons] at fw
      have eD2 := s2 _ _ eD
      have hw2 := lines_same s2 hw
      refine ⟨_, rfl, _, rfl, _, rfl, D, x0 :: xs, rfl, .inl (.inl eD2), fun p np => ?_⟩
      have ec : cutV (x0 :: xs) (some 1) none = xs := by
        rw [cut_tail1]
        rfl
      rw [ec]
      have sp := same_new (o := .lst xs) np
      have ep := upd_same (H := H2) (a := p) (o := .lst xs)
      have eD3 := sp _ _ eD2
      have eR3 := sp _ _ eR
      have hw3 := lines_same sp hw2
      have hr3 := lines_same sp hr
      have s3 := (s1.trans s2).trans sp
      generalize upd H2 p (.lst xs) = H3 at sp ep eD3 eR3 hw3 hr3 s3 ⊢
      obtain ⟨h0, hws⟩ : LineV K H3 x0 w0 ∧ Paired (LineV K H3) xs wl := by
        cases hw3 with
        | cons a b => exact ⟨a, b⟩
      have lxs := Paired.len hws
      have m0 : w0 ∈ wrongL hs n s := by rw [q]; exact List.mem_cons_self
      have c0 := cm w0 (List.mem_filter.mp m0).1
      refine ⟨p, rfl, ⟨_, .inl (.inl ep)⟩, fun D3 hD3 => ?_⟩
      refine lc_list (K := K) (a := p) (xs := xs) (fun i H' => ∃ zs, H' D3 = some (.lst zs) ∧ Same H3 H' ∧ Paired (LineV K H') zs ((wl.take i).map fun l => (w0.1 ^^^ l.1, w0.2 ^^^ l.2))) ⟨[], upd_same, same_new hD3, .nil⟩ (fun i H' _ ⟨_, _, s, _⟩ => .inl (.inl (s _ _ ep))) ?_ ?_
      · rintro i x H' hi ⟨zs, eZ, s4, hz⟩
        obtain ⟨l, hl, hx⟩ := Paired.get hws hi
        obtain ⟨il, ie⟩ := List.getElem?_eq_some_iff.mp hl
        have ml : l ∈ wrongL hs n s := by rw [q]; exact List.mem_cons_of_mem _ (List.mem_of_getElem? hl)
        have cl := cm l (List.mem_filter.mp ml).1
        have lz := Paired.len hz
        rw [List.length_map, List.length_take] at lz
        have w63 : ∀ {x : Nat}, x < 2 ^ n → x < 2 ^ 63 := fun h => Nat.lt_of_lt_of_le h (Nat.pow_le_pow_right (by decide) (by omega))
        refine ⟨rfl, _, rfl, D, x0 :: xs, 0, x0, rfl, rfl, .inl (.inl (s4 _ _ eD3)), atI_nat (j := 0) rfl, _, rfl, x0, x, w0, l, rfl, h0.same s4, hx.same s4, w63 c0.1, w63 cl.1, fun H5 y s5 ny hy => ?_⟩
        have eZ5 := s5 _ _ eZ
        refine ⟨zs, eZ5, small1000 (by omega), zs ++ [.ref y], upd_same, same_mut (s4.trans s5) hD3, ?_⟩
        rw [List.take_succ_eq_append_getElem il, ie, List.map_append]
        exact PySem.Paired.snoc (lines_but eZ5 But.at_ (lines_same s5 hz)) (LineV.but eZ5 But.at_ hy)
      rintro H4 ⟨zs, eZ, s4, hz⟩
      rw [lxs, List.take_length] at hz
      have lz := Paired.len hz
      rw [List.length_map] at lz
      refine ⟨_, _, rs, zs, rfl, rfl, s4 _ _ eR3, eZ, ?_, fun p5 np5 => ?_⟩
      · show rs.length + zs.length ≤ sizeLine
        rw [lr, lz]
        exact Nat.le_of_lt (small1000 (by omega))
      have s5 := same_new (o := .lst (rs ++ zs)) np5
      obtain ⟨gs, eg, hg⟩ := hull_widen (by omega) hh L0 q
      have hr4 := lines_same (s4.trans s5) hr3
      refine ⟨p5, rs ++ zs, rightL hs n s ++ wl.map fun l => (w0.1 ^^^ l.1, w0.2 ^^^ l.2), rfl, .inl (.inl (.inl upd_same)), paired_append hr4 (lines_same s5 hz), fun l hl => ?_, fun H6 u s6 hu => ?_⟩
      · have w63 : ∀ {x : Nat}, x < 2 ^ n → x < 2 ^ 63 := fun h => Nat.lt_of_lt_of_le h (Nat.pow_le_pow_right (by decide) (by omega))
        rcases List.mem_append.mp hl with z | z
        · have := cm l (List.mem_filter.mp z).1
          exact ⟨w63 this.1, this.2.2⟩
        · obtain ⟨k, hk, rfl⟩ := List.mem_map.mp z
          have mk : k ∈ wrongL hs n s := by rw [q]; exact List.mem_cons_of_mem _ hk
          have := cm k (List.mem_filter.mp mk).1
          exact ⟨w63 (Nat.xor_lt_two_pow c0.1 this.1), bit_xor c0.2.2 this.2.2⟩
      · rw [eg] at hu
        exact kk H6 u gs (((s3.trans s4).trans s5).trans s6) hu hg
end
end Es
set_option Elab.async false
set_option linter.all false
set_option maxRecDepth 100000
set_option maxHeartbeats 4000000
namespace Es
open PySem PySem.Spec PyProof.Rows L2
section
variable {P : Program} {w : World} {K : PySem.W.Frag} {mg : Str → Option Value} {base : Heap}
theorem ok_least_flat {f : Addr} {fd : FuncData} (F : Fun K "least_flat" "least_flat" s_least_flat f fd) (T : Txt mg) (c_widened : CalleeOf P w K mg base 5 "_widened" ["flat", "bits"] (sp_widened K)) : FnG P w K mg base 6 f fd ["some"] (sp_least_flat K) := by
  refine okG F sc_least_flat (fun h => ?_) (fun cdv B out t0 G ys R E hr hg h => ?_)
  · obtain ⟨a, us, n, L, rfl, _⟩ := h
    rfl
  · obtain ⟨a, us, n, L, rfl, n12, hS, hP, L0, kk⟩ := h
    refine ⟨_, (pss_cons
        (ps_set (i := 1) sc_least_flat.nd rfl (Or.inl rfl) (pe_callTy call_tuple_of (by rfl) T.z_tuple (by decide +kernel) (pa_cons (pe_lc (own := [("unknown", 2), ("bit", 3)]) (g := (gTup K 2 (gCons (gName 2) (gCons (gName 3) gNil)))) rfl sc_least_flat.nd (pi_enumT (by rfl) T.z_enumerate (pa_cons (pe_ix ix_seq (pv 0) pe_int (fun _ _ => rfl)) pa_nil)) (blkOk_by (own := [("unknown", 2), ("bit", 3)]) (N := ["some", "flat", "unknown", "bit", "bits"]) (sc := defScope s_least_flat) (by decide +kernel)) (fun _ _ _ _ _ => (pg_tup (by rfl) (pgs_cons (pg_name (i := 2) sc_least_flat.nd rfl (.inl rfl)) (pgs_cons (pg_name (i := 3) sc_least_flat.nd rfl (.inl rfl)) pgs_nil)))) (fun _ _ _ _ _ => pts_nil) (fun _ _ _ _ _ => (pe_tup (pa_cons (pe_tup (pa_cons (pv 2) pa_nil)) (pa_cons (pv 3) pa_nil))))) pa_nil)))
        (pss_cons
        (ps_for PassesOwn.never rfl (pi_or (pi_list (pe_slice sl_list (pv 0) (po_some pe_int) po_none)) (pi_tup (pe_slice sl_tup (pv 0) (po_some pe_int) po_none))) (pg_name (i := 4) sc_least_flat.nd rfl (.inl rfl))
        (pss_one
          (ps_set (i := 1) sc_least_flat.nd rfl (Or.inl rfl) (pe_callC c_widened (hr.mono (by decide)) hg (by rfl) (pa_cons (pv 1) (pa_cons (pv 4) pa_nil))))))
        (pss_one
        (ps_ret (pv 1))))), ?_⟩
    obtain ⟨s0, L, rfl⟩ : ∃ s0 L', L = s0 :: L' := by
      cases L with
      | nil => exact absurd rfl L0
      | cons x L => exact ⟨x, L, rfl⟩
    obtain ⟨x0, us, rfl⟩ : ∃ x0 us', us = x0 :: us' := by
      cases hP
      exact ⟨_, _, rfl⟩
    obtain ⟨h0, hP1⟩ : BitsV K n G x0 s0 ∧ Paired (BitsV K n G) us L := by
      cases hP with
      | cons a b => exact ⟨a, b⟩
    obtain ⟨t0, rfl, ht0⟩ := h0
    obtain ⟨F0, c0⟩ := pointF_flat (n := n) (s := s0) (by omega)
    have lb : (iv (bitsS n s0)).length = n := by rw [iv_len, bitsS_len]
    refine ⟨_, rfl, ix_use (v := .ref t0) hS (atI_nat (j := 0) rfl) ⟨t0, iv (bitsS n s0), rfl, ht0, fun D hD => ?_⟩⟩
    refine lc_enumT (K := K) (a := t0) (xs := iv (bitsS n s0)) (fun i H => ∃ zs, H D = some (.lst zs) ∧ Same G H ∧ Paired (LineV K H) zs ((List.range i).map fun u => (2 ^ u, (bitsS n s0).getD u 0))) ⟨[], upd_same, same_new hD, .nil⟩ (fun i H ⟨_, _, s, _⟩ => sqT_same s ht0) ?_ ?_
    · rintro i x T H hi ⟨zs, eD, s1, hz⟩ nT
      obtain ⟨u, hu, rfl⟩ := iv_get hi
      have il : i < n := by
        have := (List.getElem?_eq_some_iff.mp hi).1
        omega
      have gu : (bitsS n s0).getD i 0 = u := by
        rw [List.getD_eq_getElem?_getD, hu]
        rfl
      have lz := Paired.len hz
      rw [List.length_map, List.length_range] at lz
      have sT := same_new (o := .tup [V.int ((i : Nat) : Int), V.int (u : Int)]) nT
      refine ⟨T, _, rfl, .inl (.inl upd_same), rfl, .int ((i : Nat) : Int), _, rfl, .int (u : Int), [], rfl, rfl, rfl, ?_⟩
      refine ⟨_, rfl, (by show 1 ≤ sizeLine; decide), fun q1 n1 => ⟨_, rfl, (by show 2 ≤ sizeLine; decide), fun q2 n2 => ?_⟩⟩
      have r1 := same_new (o := .tup [V.int ((i : Nat) : Int)]) n1
      have r2 := same_new (o := .tup [V.ref q1, V.int (u : Int)]) n2
      have sA := sT.trans (r1.trans r2)
      have hq1 := r2 _ _ (upd_same (H := upd H T (.tup [V.int ((i : Nat) : Int), V.int (u : Int)])) (a := q1) (o := .tup [V.int ((i : Nat) : Int)]))
      have hl : LineV K _ (.ref q2) (2 ^ i, u) := ⟨q2, .ref q1, rfl, .inl (.inl (upd_same (H := upd (upd H T (.tup [V.int ((i : Nat) : Int), V.int (u : Int)])) q1 (.tup [V.int ((i : Nat) : Int)])) (a := q2) (o := .tup [V.ref q1, V.int (u : Int)]))), ⟨q1, rfl, .inl (.inl (by rw [hq1, bts_pow (by omega)]; rfl))⟩⟩
      have eD3 := sA _ _ eD
      generalize upd (upd (upd H T (.tup [V.int ((i : Nat) : Int), V.int (u : Int)])) q1 (.tup [V.int ((i : Nat) : Int)])) q2 (.tup [V.ref q1, V.int (u : Int)]) = H3 at sA hl eD3 ⊢
      refine ⟨zs, eD3, small1000 (by omega), zs ++ [.ref q2], upd_same, same_mut (s1.trans sA) hD, ?_⟩
      rw [List.range_succ, List.map_append]
      refine PySem.Paired.snoc (lines_but eD3 But.at_ (lines_same sA hz)) (LineV.but eD3 But.at_ ?_)
      show LineV K H3 (.ref q2) (2 ^ i, (bitsS n s0).getD i 0)
      rw [gu]
      exact hl
    rintro H1 ⟨zs, eD, s1, hz⟩
    rw [lb, ← c0] at hz
    refine ⟨D, _, rfl, .inl ⟨.inl (.inl eD), fun q nq => ?_⟩⟩
    have rq := same_new (o := .tup zs) nq
    have hF : FlatV K (upd H1 q (.tup zs)) (.ref q) (pointF n s0) := ⟨q, zs, rfl, .inl (.inl upd_same), lines_same rq hz⟩
    have s2 := s1.trans rq
    generalize upd H1 q (.tup zs) = H2 at rq hF s2 ⊢
    have hP2 : Paired (BitsV K n H2) us L := Paired.mono2 (fun _ _ h => BitsV.same s2 h) hP1
    have lP := Paired.len hP2
    have ec : cutV (V.ref t0 :: us) (some 1) none = us := by
      rw [cut_tail1]
      rfl
    have hull0 : HullOf n (s0 :: L.take 0) (pointF n s0) := pointF_hull (by omega)
    rcases hS with hS | hS
    · refine .inl ⟨_, rfl, _, rfl, a, _, rfl, sqL_same s2 hS, fun p np => ?_⟩
      rw [ec]
      have rp := same_new (o := .lst us) np
      have ep := upd_same (H := H2) (a := p) (o := .lst us)
      have hP3 : Paired (BitsV K n (upd H2 p (.lst us))) us L := Paired.mono2 (fun _ _ h => BitsV.same rp h) hP2
      have hF3 := hF.same rp
      have s3 := s2.trans rp
      generalize upd H2 p (.lst us) = H3 at rp ep hP3 hF3 s3 ⊢
      refine ⟨p, rfl, ⟨_, .inl (.inl ep)⟩, for_list (K := K) (a := p) (xs := us) (fun i σ H => ∃ v gs y4, σ = [some (.ref a), some v, none, none, y4] ∧ Same H3 H ∧ FlatV K H v gs ∧ HullOf n (s0 :: L.take i) gs)
        ⟨_, _, _, rfl, Same.refl _, hF3, hull0⟩ (fun i σ H _ ⟨_, _, _, _, s, _⟩ => .inl (.inl (s _ _ ep))) ?_ ?_⟩
      · rintro i x σ H hi ⟨v, gs, y4, rfl, s4, hv, hh⟩
        obtain ⟨z, hz, hx⟩ := Paired.get hP3 hi
        obtain ⟨zl, ze⟩ := List.getElem?_eq_some_iff.mp hz
        obtain ⟨tb, rfl, htb⟩ := BitsV.same s4 hx
        refine ⟨_, rfl, _, rfl, v, tb, n, z, s0 :: L.take i, gs, rfl, n12, hv, hh, (fun q => by cases q), htb, fun H5 u ks s5 hu hk => ⟨_, _, _, rfl, s4.trans s5, hu, ?_⟩⟩
        rw [List.take_succ_eq_append_getElem zl, ze]
        exact hk
      · rintro σ H ⟨v, gs, y4, rfl, s4, hv, hh⟩
        rw [lP, List.take_length] at hh
        exact ⟨_, rfl, kk H v gs (s3.trans s4) hv hh⟩
    · refine .inr ⟨_, rfl, _, rfl, a, _, rfl, sqT_same s2 hS, ?_, fun p np => ?_⟩
      · intro z
        have z := z.1
        have : HT.sIx (V.ref t0 :: us).length 0 (some 1) = 1 := by
          simp [HT.sIx]
        rw [this] at z
        cases z
      rw [ec]
      have rp := same_new (o := .tup us) np
      have ep := upd_same (H := H2) (a := p) (o := .tup us)
      have hP3 : Paired (BitsV K n (upd H2 p (.tup us))) us L := Paired.mono2 (fun _ _ h => BitsV.same rp h) hP2
      have hF3 := hF.same rp
      have s3 := s2.trans rp
      generalize upd H2 p (.tup us) = H3 at rp ep hP3 hF3 s3 ⊢
      refine ⟨p, rfl, ⟨_, .inl (.inl ep)⟩, for_tup (K := K) (a := p) (xs := us) (fun i σ H => ∃ v gs y4, σ = [some (.ref a), some v, none, none, y4] ∧ Same H3 H ∧ FlatV K H v gs ∧ HullOf n (s0 :: L.take i) gs)
        ⟨_, _, _, rfl, Same.refl _, hF3, hull0⟩ (fun i σ H _ ⟨_, _, _, _, s, _⟩ => .inl (.inl (s _ _ ep))) ?_ ?_⟩
      · rintro i x σ H hi ⟨v, gs, y4, rfl, s4, hv, hh⟩
        obtain ⟨z, hz, hx⟩ := Paired.get hP3 hi
        obtain ⟨zl, ze⟩ := List.getElem?_eq_some_iff.mp hz
        obtain ⟨tb, rfl, htb⟩ := BitsV.same s4 hx
        refine ⟨_, rfl, _, rfl, v, tb, n, z, s0 :: L.take i, gs, rfl, n12, hv, hh, (fun q => by cases q), htb, fun H5 u ks s5 hu hk => ⟨_, _, _, rfl, s4.trans s5, hu, ?_⟩⟩
        rw [List.take_succ_eq_append_getElem zl, ze]
        exact hk
      · rintro σ H ⟨v, gs, y4, rfl, s4, hv, hh⟩
        rw [lP, List.take_length] at hh
        exact ⟨_, rfl, kk H v gs (s3.trans s4) hv hh⟩
end
end Es
set_option Elab.async false
set_option linter.all false
set_option maxRecDepth 100000
set_option maxHeartbeats 4000000
namespace Es
open PySem PySem.Spec PyProof.Rows L2
section
variable {P : Program} {w : World} {K : PySem.W.Frag} {mg : Str → Option Value} {base : Heap}
theorem ok_law_alike {f : Addr} {fd : FuncData} (F : Fun K "_law_alike" "_law_alike" s_law_alike f fd) (T : Txt mg)  : FnG P w K mg base 1 f fd ["found", "due"] (sp_law_alike K) := by
  refine okG F sc_law_alike (fun h => ?_) (fun cdv B out t0 G ys R E hr hg h => ?_)
  · obtain ⟨x, y, d, rfl, _⟩ := h
    rfl
  · obtain ⟨x, y, d, rfl, hx, hy, ni, dp, wt, k⟩ := h
    refine ⟨_, (pss_one
        (ps_ret (pe_and (pe_cmpR (op_eqD hr.units) (pv 0) (pv 1) (nomark _)) (pe_one (pe_cmpR op_eq (pe_callB (cr_repr hg hr.units) (by rfl) T.z_repr (by decide +kernel) (pa_cons (pv 0) pa_nil)) (pe_callB (cr_repr hg hr.units) (by rfl) T.z_repr (by decide +kernel) (pa_cons (pv 1) pa_nil)) (nomark _)))))), ?_⟩
    have sh := nice_shaped ni dp
    have e : PyData.eqv d d = true := SeqAt.eqv_refl d (nice_facts d ni).1
    refine ⟨_, rfl, _, rfl, d, d, hx, hy, sh, sh, _, rfl, ?_⟩
    rw [e]
    refine iteT ?_
    refine ⟨_, rfl, x, d, rfl, hx, ni, dp, wt, _, rfl, y, d, rfl, hy, ni, dp, wt, rfl, ?_⟩
    rw [decide_eq_true rfl]
    exact k
end
end Es
set_option Elab.async false
set_option linter.all false
set_option maxRecDepth 100000
set_option maxHeartbeats 4000000
namespace Es
open PySem PySem.Spec PyProof.Rows L2
section
variable {P : Program} {w : World} {K : PySem.W.Frag} {mg : Str → Option Value} {base : Heap}
theorem ok_told_on {f : Addr} {fd : FuncData} (F : Fun K "told_on" "told_on" s_told_on f fd) (T : Txt mg) (c_without_heads : CalleeOf P w K mg base 3 "_without_heads" ["flat", "line"] (sp_without_heads K)) : FnG P w K mg base 4 f fd ["flat", "row"] (sp_told_on K) := by
  refine okG F sc_told_on (fun h => ?_) (fun cdv B out t0 G ys R E hr hg h => ?_)
  · obtain ⟨v, u, hs, m, rfl, _⟩ := h
    rfl
  · obtain ⟨v, u, hs, m, rfl, hv, F, hu, m63, kk⟩ := h
    refine ⟨_, (pss_cons
        (ps_asg (pe_callC c_without_heads (hr.mono (by decide)) hg (by rfl) (pa_cons (pv 0) (pa_cons (pe_tup (pa_cons (pv 1) (pa_cons pe_int pa_nil))) pa_nil))) (pg_tup (by rfl) (pgs_cons (pg_name (i := 2) sc_told_on.nd rfl (.inl rfl)) (pgs_cons (pg_name (i := 3) sc_told_on.nd rfl (.inl rfl)) pgs_nil))))
        (pss_one
        (ps_ret (pe_ifExp (pt_truth (pv 2) (by intro _; rfl)) pe_non (pv 3))))), ?_⟩
    obtain ⟨t, us, rfl, hL⟩ := hv.lines F
    refine ⟨_, rfl, _, rfl, (by show 2 ≤ sizeLine; decide), fun p np => ?_⟩
    have s1 := same_new (o := .tup [u, V.int 0]) np
    refine ⟨t, us, byHead hs, .ref p, (m, 0), rfl, hL.same s1, ⟨p, u, rfl, .inl (.inl upd_same), hu.same s1⟩, m63, fun H2 v' s2 hv' => ?_⟩
    rw [wh_byHead F] at hv'
    obtain ⟨tv, rv, rfl, htv, ⟨pr, rfl, hpr⟩⟩ := hv'
    refine ⟨tv, _, rfl, htv, rfl, _, _, rfl, _, _, rfl, rfl, ?_⟩
    refine ⟨_, rfl, _, .inr (.inl ⟨_, hpr, rfl⟩), ?_⟩
    rw [emp_low]
    have h := kk H2 (s1.trans s2)
    unfold toldV at h
    have w63 := (wh_heads F.red (p := (m, 0)) m63).1
    cases e : low (wh hs (m, 0)).1 with
    | none =>
      have z := (low_none w63).mp e
      rw [if_pos z] at h
      refine iteF ⟨_, rfl, h⟩
    | some g =>
      have z : (wh hs (m, 0)).1 ≠ 0 := fun z => by
        rw [(low_none w63).mpr z] at e
        cases e
      rw [if_neg z] at h
      exact iteT h
end
end Es
set_option Elab.async false
set_option linter.all false
set_option maxRecDepth 100000
set_option maxHeartbeats 4000000
namespace Es
open PySem PySem.Spec PyProof.Rows L2
section
variable {P : Program} {w : World} {K : PySem.W.Frag} {mg : Str → Option Value} {base : Heap}
theorem ok_lies_in {f : Addr} {fd : FuncData} (F : Fun K "lies_in" "lies_in" s_lies_in f fd) (T : Txt mg) (c_told_on : CalleeOf P w K mg base 4 "told_on" ["flat", "row"] (sp_told_on K)) : FnG P w K mg base 5 f fd ["one", "other"] (sp_lies_in K) := by
  refine okG F sc_lies_in (fun h => ?_) (fun cdv B out t0 G ys R E hr hg h => ?_)
  · obtain ⟨v, t, us, hs, ls, rfl, _⟩ := h
    rfl
  · obtain ⟨v, t, us, hs, ls, rfl, hv, F, ht, hP, hl, kk⟩ := h
    refine ⟨_, (pss_cons
        (ps_for PassesOwn.never rfl (pi_tup (pv 1)) (pg_tup (by rfl) (pgs_cons (pg_name (i := 2) sc_lies_in.nd rfl (.inl rfl)) (pgs_cons (pg_name (i := 3) sc_lies_in.nd rfl (.inl rfl)) pgs_nil)))
        (pss_one
          (ps_if (pt_cmpR (op_neD hr.units) (pe_callC c_told_on (hr.mono (by decide)) hg (by rfl) (pa_cons (pv 0) (pa_cons (pv 2) pa_nil))) (pv 3) (nomark _))
          (pss_one
            (ps_ret pe_bl))
          pss_nil)))
        (pss_one
        (ps_ret pe_bl))), ?_⟩
    have lenP : us.length = ls.length := Paired.len hP
    refine ⟨_, rfl, t, rfl, ⟨us, ht⟩, for_tup (K := K) (a := t) (xs := us)
      (fun i σ H => ∃ y2 y3, σ = [some v, some (.ref t), y2, y3] ∧ Same G H ∧ liesB hs (ls.take i) = true)
      ⟨_, _, rfl, Same.refl _, rfl⟩ (fun i σ H _ ⟨_, _, _, s, _⟩ => sqT_same s ht) ?_ ?_⟩
    · rintro i x σ H hi ⟨y2, y3, rfl, s1, ha⟩
      obtain ⟨l, hli, hx⟩ := Paired.get hP hi
      have hil := (List.getElem?_eq_some_iff.mp hli).1
      obtain ⟨l63, l2⟩ := hl l (List.mem_of_getElem? hli)
      obtain ⟨tx, rx, rfl, htx, hrx⟩ := hx
      refine ⟨tx, _, rfl, sqT_same s1 htx, rfl, _, _, rfl, _, _, rfl, rfl, ?_⟩
      refine ⟨_, rfl, _, rfl, v, rx, hs, l.1, rfl, hv.same s1, F, hrx.same s1, l63, fun H1 s2 => ?_⟩
      refine ⟨_, rfl, toldD hs l.1, .int (l.2 : Int), dp_told hs l.1, .int _, nice_shaped (toldD_facts F l.1).1 (toldD_facts F l.1).2.1, rfl, _, rfl, ?_⟩
      have e : PyData.eqv (toldD hs l.1) (.int (l.2 : Int)) = (decide ((wh hs (l.1, 0)).1 = 0) && decide ((wh hs (l.1, 0)).2 = l.2)) := by
        unfold toldD
        by_cases z : (wh hs (l.1, 0)).1 = 0
        · rw [if_pos z, decide_eq_true z, Bool.true_and]
          show (((wh hs (l.1, 0)).2 : Int) == (l.2 : Int)) = _
          rw [Bool.eq_iff_iff, beq_iff_eq, decide_eq_true_eq]
          omega
        · rw [if_neg z, decide_eq_false z]
          rfl
      rw [e]
      have st : liesB hs (ls.take (i + 1)) = (liesB hs (ls.take i) && (decide ((wh hs (l.1, 0)).1 = 0) && decide ((wh hs (l.1, 0)).2 = l.2))) := by
        unfold liesB
        rw [List.take_succ_eq_append_getElem hil, (List.getElem?_eq_some_iff.mp hli).2, List.all_append]
        simp
      cases q : (decide ((wh hs (l.1, 0)).1 = 0) && decide ((wh hs (l.1, 0)).2 = l.2)) with
      | true =>
        refine iteF ⟨_, _, rfl, s1.trans s2, ?_⟩
        rw [st, ha, q]
        rfl
      | false =>
        have e2 : liesB hs ls = false := by
          unfold liesB
          rw [List.all_eq_false]
          exact ⟨l, List.mem_of_getElem? hli, by rw [q]; decide⟩
        have h := kk _ (s1.trans s2)
        rw [e2] at h
        exact iteT h
    · rintro σ H ⟨y2, y3, rfl, s1, ha⟩
      rw [lenP, List.take_length] at ha
      have h := kk _ s1
      rw [ha] at h
      exact h
end
end Es
set_option Elab.async false
set_option linter.all false
set_option maxRecDepth 100000
set_option maxHeartbeats 4000000
namespace Es
open PySem PySem.Spec PyProof.Rows L2
section
variable {P : Program} {w : World} {K : PySem.W.Frag} {mg : Str → Option Value} {base : Heap}
theorem ok_is_in {f : Addr} {fd : FuncData} (F : Fun K "is_in" "is_in" s_is_in f fd) (T : Txt mg) (c_holds : CalleeOf P w K mg base 2 "holds" ["line", "bits"] (sp_holds K)) : FnG P w K mg base 3 f fd ["flat", "bits"] (sp_is_in K) := by
  refine okG F sc_is_in (fun h => ?_) (fun cdv B out t0 G ys R E hr hg h => ?_)
  · obtain ⟨t, b, us, ls, bs, rfl, _⟩ := h
    rfl
  · obtain ⟨t, b, us, ls, bs, rfl, ht, hP, hb, hlt, kk⟩ := h
    refine ⟨_, (pss_cons
        (ps_for PassesOwn.never rfl (pi_tup (pv 0)) (pg_name (i := 2) sc_is_in.nd rfl (.inl rfl))
        (pss_one
          (ps_if (pt_not (pt_val (pe_callC c_holds (hr.mono (by decide)) hg (by rfl) (pa_cons (pv 2) (pa_cons (pv 1) pa_nil)))))
          (pss_one
            (ps_ret pe_bl))
          pss_nil)))
        (pss_one
        (ps_ret pe_bl))), ?_⟩
    have lenP : us.length = ls.length := Paired.len hP
    refine ⟨_, rfl, t, rfl, ⟨us, ht⟩, for_tup (K := K) (a := t) (xs := us)
      (fun i σ H => ∃ y2, σ = [some (.ref t), some (.ref b), y2] ∧ Same G H ∧ (ls.take i).all (fun l => decide (wsum l.1 bs % 2 = l.2)) = true)
      ⟨_, rfl, Same.refl _, rfl⟩ (fun i σ H _ ⟨_, _, s, _⟩ => sqT_same s ht) ?_ ?_⟩
    · rintro i x σ H hi ⟨y2, rfl, s1, ha⟩
      obtain ⟨l, hli, hx⟩ := Paired.get hP hi
      have hil := (List.getElem?_eq_some_iff.mp hli).1
      refine ⟨_, rfl, _, rfl, x, b, l, bs, rfl, hx.same s1, sqT_same s1 hb, hlt l (List.mem_of_getElem? hli), fun H1 s2 => ⟨_, rfl, ?_⟩⟩
      by_cases q : wsum l.1 bs % 2 = l.2
      · rw [decide_eq_true q]
        refine iteF ⟨some x, rfl, s1.trans s2, ?_⟩
        rw [List.take_succ_eq_append_getElem hil, (List.getElem?_eq_some_iff.mp hli).2, List.all_append, ha]
        simp [q]
      · rw [decide_eq_false q]
        have e : (ls.all fun l => decide (wsum l.1 bs % 2 = l.2)) = false := by
          rw [List.all_eq_false]
          exact ⟨l, List.mem_of_getElem? hli, by simp [q]⟩
        have h := kk _ (s1.trans s2)
        rw [e] at h
        exact iteT h
    · rintro σ H ⟨y2, rfl, s1, ha⟩
      rw [lenP, List.take_length] at ha
      have h := kk _ s1
      rw [ha] at h
      exact h
end
end Es
set_option Elab.async false
set_option linter.all false
set_option maxRecDepth 100000
set_option maxHeartbeats 4000000
namespace Es
open PySem PySem.Spec PyProof.Rows L2
section
variable {P : Program} {w : World} {K : PySem.W.Frag} {mg : Str → Option Value} {base : Heap}
theorem ok_law_is_least_right {f : Addr} {fd : FuncData} (F : Fun K "_law_is_least_right" "_law_is_least_right" s_law_is_least_right f fd) (T : Txt mg) (c_law_drawn_flat : CalleeOf P w K mg base 4 "_law_drawn_flat" ["bag", "many", "most"] (sp_law_drawn_flat K)) (c_law_room : CalleeOf P w K mg base 1 "_law_room" ["many"] (sp_law_roomZ K)) (c_law_listed : CalleeOf P w K mg base 3 "_law_listed" ["room", "some"] (sp_law_listedZ K)) (c_law_in : CalleeOf P w K mg base 2 "_law_in" ["room", "flat"] (sp_law_inZ K)) (c_law_take : CalleeOf P w K mg base 1 "_law_take" ["bag", "many"] (sp_law_take K)) (c_law_some : CalleeOf P w K mg base 2 "_law_some" ["bag", "things"] (sp_law_some K)) (c_law_common_flat : CalleeOf P w K mg base 3 "_law_common_flat" ["many", "some"] (sp_law_common_flat K)) (c_least_flat : CalleeOf P w K mg base 6 "least_flat" ["some"] (sp_least_flat K)) (c_law_alike : CalleeOf P w K mg base 1 "_law_alike" ["found", "due"] (sp_law_alike K)) (c_lies_in : CalleeOf P w K mg base 5 "lies_in" ["one", "other"] (sp_lies_in K)) (c_is_in : CalleeOf P w K mg base 3 "is_in" ["flat", "bits"] (sp_is_in K)) : FnG P w K mg base 7 f fd ["bag", "many"] (sp_law_is_least_right K) := by
  refine okG F sc_law_is_least_right (fun h => ?_) (fun cdv B out t0 G ys R E hr hg h => ?_)
  · obtain ⟨b, c, n, rfl, _⟩ := h
    rfl
  · obtain ⟨b, c, n, rfl, hB, n5, kk⟩ := h
    refine ⟨_, (pss_cons
        (ps_par (i := 2) (j := 3) rfl sc_law_is_least_right.nd rfl rfl (by decide) rfl rfl (pa_cons (pe_callC c_law_room (hr.mono (by decide)) hg (by rfl) (pa_cons (pv 1) pa_nil)) (pa_cons (pe_callC c_law_drawn_flat (hr.mono (by decide)) hg (by rfl) (pa_cons (pv 0) (pa_cons (pv 1) (pa_cons pe_int pa_nil)))) pa_nil)) (by rfl))
        (pss_cons
        (ps_set (i := 4) sc_law_is_least_right.nd rfl (Or.inr rfl) (pe_callC c_law_listed (hr.mono (by decide)) hg (by rfl) (pa_cons (pv 2) (pa_cons (pe_callC c_law_in (hr.mono (by decide)) hg (by rfl) (pa_cons (pv 2) (pa_cons (pv 3) pa_nil))) pa_nil))))
        (pss_cons
        (ps_setLc (i := 5) (own := [("k", 6)]) rfl sc_law_is_least_right.nd rfl rfl (sw_true rfl rfl rfl (by decide +kernel)) (pi_range1 (by rfl) T.z_range (pa_cons (pe_op op_add pe_int (pe_callC c_law_take (hr.mono (by decide)) hg (by rfl) (pa_cons (pv 0) (pa_cons pe_int pa_nil)))) pa_nil)) (blkOk_by (own := [("k", 6)]) (N := ["bag", "many", "room", "flat", "inside", "some", "k", "few", "due", "kept", "told", "bits"]) (sc := defScope s_law_is_least_right) (by decide +kernel)) (fun _ _ _ _ _ => (pg_name (i := 6) sc_law_is_least_right.nd rfl (.inl rfl))) (fun _ _ _ _ _ => pts_nil) (fun _ _ _ _ _ => (pe_callC c_law_some (hr.mono (by decide)) hg (by rfl) (pa_cons (pv 0) (pa_cons (pv 4) pa_nil)))))
        (pss_cons
        (ps_for PassesOwn.never rfl (pi_tup (pe_tup (pa_cons (pe_tup (pa_cons (pv 5) (pa_cons (pe_callC c_law_common_flat (hr.mono (by decide)) hg (by rfl) (pa_cons (pv 1) (pa_cons (pv 5) pa_nil))) pa_nil))) (pa_cons (pe_tup (pa_cons (pv 4) (pa_cons (pv 3) pa_nil))) (pa_cons (pe_tup (pa_cons (pe_callTy call_tuple_of (by rfl) T.z_tuple (by decide +kernel) (pa_cons (pv 5) pa_nil)) (pa_cons (pe_callC c_law_common_flat (hr.mono (by decide)) hg (by rfl) (pa_cons (pv 1) (pa_cons (pv 5) pa_nil))) pa_nil))) pa_nil))))) (pg_tup (by rfl) (pgs_cons (pg_name (i := 7) sc_law_is_least_right.nd rfl (.inl rfl)) (pgs_cons (pg_name (i := 8) sc_law_is_least_right.nd rfl (.inl rfl)) pgs_nil)))
        (pss_cons
          (ps_asg (pe_tup (pa_cons (pe_callB (cr_repr hg hr.units) (by rfl) T.z_repr (by decide +kernel) (pa_cons (pv 7) pa_nil)) (pa_cons (pe_callC c_least_flat (hr.mono (by decide)) hg (by rfl) (pa_cons (pv 7) pa_nil)) pa_nil))) (pg_tup (by rfl) (pgs_cons (pg_name (i := 9) sc_law_is_least_right.nd rfl (.inl rfl)) (pgs_cons (pg_name (i := 10) sc_law_is_least_right.nd rfl (.inr rfl)) pgs_nil))))
          (pss_cons
          (ps_if (PW.pt (pw_or (pt_not (pt_val (pe_callC c_law_alike (hr.mono (by decide)) hg (by rfl) (pa_cons (pv 10) (pa_cons (pv 8) pa_nil))))) (pw_or1 (pt_cmpR op_ne (pe_callB (cr_repr hg hr.units) (by rfl) T.z_repr (by decide +kernel) (pa_cons (pv 7) pa_nil)) (pv 9) (nomark _)))))
          (pss_one
            (ps_ret pe_bl))
          pss_nil)
          (pss_one
          (ps_if (PW.pt (pw_or (pt_cmpR op_in_seq pe_bl (pe_lc (own := [("bits", 11)]) rfl sc_law_is_least_right.nd (pi_or (pi_list (pv 7)) (pi_tup (pv 7))) (blkOk_by (own := [("bits", 11)]) (N := ["bag", "many", "room", "flat", "inside", "some", "k", "few", "due", "kept", "told", "bits"]) (sc := defScope s_law_is_least_right) (by decide +kernel)) (fun _ _ _ _ _ => (pg_name (i := 11) sc_law_is_least_right.nd rfl (.inl rfl))) (fun _ _ _ _ _ => pts_nil) (fun _ _ _ _ _ => (pe_callC c_is_in (hr.mono (by decide)) hg (by rfl) (pa_cons (pv 10) (pa_cons (pv 11) pa_nil))))) (by rfl)) (pw_or1 (pt_not (pt_val (pe_callC c_lies_in (hr.mono (by decide)) hg (by rfl) (pa_cons (pv 10) (pa_cons (pv 3) pa_nil))))))))
          (pss_one
            (ps_ret pe_bl))
          pss_nil)))))
        (pss_one
        (ps_ret pe_bl)))))), ?_⟩
    refine ⟨_, rfl, n, rfl, by omega, fun H1 r s1 hR => ⟨_, rfl, _, rfl, b, c, n, 4, rfl, hB.same s1, by omega, by decide, fun H2 v hs s2 B2 hv F hlt => ⟨_, _, rfl, ?_⟩⟩⟩
    have B1 := hB.same s1
    have hR2 := hR.bag B1 s2
    obtain ⟨t, us, rfl, ht, hP⟩ := hv
    have cb := canon_below F hlt
    have sA := (But.same (b := b) s1).trans s2
    refine ⟨_, rfl, _, rfl, _, rfl, r, t, us, n, canon hs, rfl, hR2, by omega, ht, hP, cb, fun x hx => ⟨r, n, x, rfl, hR2, by omega, hx.1, fun H3 p ws s3 np ep PD => ?_⟩⟩
    have epl : ((List.range (2 ^ n)).filter fun s => x.testBit s) = places n hs := (bits_list hx).symm
    rw [epl] at PD
    obtain ⟨hullP, ne0⟩ := hull_places F hlt
    have lw := Paired.len PD
    have lp : (places n hs).length ≤ 32 := by
      have := List.length_filter_le (inF n hs) (List.range (2 ^ n))
      rw [List.length_range] at this
      have p5 : 2 ^ n ≤ 2 ^ 5 := Nat.pow_le_pow_right (by decide) n5
      exact Nat.le_trans this p5
    have lp0 : 0 < (places n hs).length := List.length_pos_iff.mpr ne0
    have B3 := B2.same s3
    obtain ⟨y3, e3⟩ := B3.lst
    have npb : p ≠ b := ne_bagK B2 np
    refine ⟨_, rfl, b, c, 4, rfl, B3, by decide, by decide, fun H4 r4 s4 B4 h4 => ⟨_, _, rfl, rfl, ?_⟩⟩
    have ep4 := s4 _ _ npb ep
    have PD4 : Paired (BitsV K n H4) ws (places n hs) := Paired.mono2 (fun _ _ h => by
      obtain ⟨tb, rfl, htb⟩ := h
      exact ⟨tb, rfl, sqT_but e3 s4 htb⟩) PD
    have ej : (1 : Int) + (r4 : Int) = ((1 + r4 : Nat) : Int) := by omega
    obtain ⟨y4, e4⟩ := B4.lst
    refine ⟨((1 + r4 : Nat) : Int), congrArg (fun z => [V.int z]) ej, by omega, by omega, fun D hD => ?_⟩
    have nDb := ne_bagK B4 hD
    refine lc_range (lo := 0) (n := 1 + r4) (fun i H => ∃ zs ss, H D = some (.lst zs) ∧ But b H4 H ∧ BagAt K H b c ∧ Paired (BitsV K n H) zs ss ∧ (∀ s ∈ ss, s ∈ places n hs) ∧ ss.length = i)
      ⟨[], [], upd_same, But.new hD, B4.same (same_new hD), .nil, (fun s h => by cases h), rfl⟩ ?_ ?_
    · rintro i H hi ⟨zs, ss, eD, s5, B5, hz, ok, ls⟩
      obtain ⟨y5, e5⟩ := B5.lst
      have lz := Paired.len hz
      refine ⟨rfl, _, rfl, _, rfl, b, c, p, ws, rfl, B5, npb, .inl (.inl (.inl (s5 _ _ npb ep4))), by omega, by omega, fun H6 k v s6 B6 hk => ?_⟩
      obtain ⟨z, hz0, hb⟩ := Paired.get PD4 hk
      obtain ⟨tb, rfl, htb⟩ := hb
      have htb6 := sqT_but e4 (s5.trans s6) htb
      have eD6 := s6 _ _ nDb eD
      refine ⟨zs, eD6, small1000 (by omega), zs ++ [.ref tb], ss ++ [z], upd_same, but_mut (s5.trans s6) hD, BagAt.mut B4 hD B6, ?_, ?_, by simp [ls]⟩
      · refine PySem.Paired.snoc (Paired.mono2 (fun _ _ h => ?_) hz) ⟨tb, rfl, sqT_but eD6 But.at_ htb6⟩
        obtain ⟨tc, rfl, htc⟩ := h
        exact ⟨tc, rfl, sqT_but eD6 But.at_ (sqT_but e5 s6 htc)⟩
      · intro s h
        rcases List.mem_append.mp h with h | h
        · exact ok s h
        · rw [List.mem_singleton.mp h]
          exact List.mem_of_getElem? hz0
    rintro H5 ⟨zs, ss, eD, s5, B5, hz, ok, ls⟩
    have ss0 : ss ≠ [] := fun z => by
      rw [z, List.length_nil] at ls
      omega
    have ep5 := s5 _ _ npb ep4
    have PD5 : Paired (BitsV K n H5) ws (places n hs) := Paired.mono2 (fun _ _ h => by
      obtain ⟨tb, rfl, htb⟩ := h
      exact ⟨tb, rfl, sqT_but e4 s5 htb⟩) PD4
    have sB := ((sA.trans (But.same s3)).trans s4).trans s5
    have ht5 := sqT_but e4 s5 (sqT_but e3 s4 (sqT_same s3 ht))
    have hP5 := lines_but e4 s5 (lines_but e3 s4 (lines_same s3 hP))
    have hF5 : FlatV K H5 (.ref t) hs := ⟨t, us, rfl, ht5, hP5⟩
    have lss : ss.length ≤ 4 := by omega
    refine ⟨_, rfl, _, rfl, _, rfl, D, zs, n, ss, rfl, n5, .inl (.inl (.inl eD)), hz, ss0, by omega, fun H6 u6 g6 s6 hu6 hg6 => ⟨(by show 2 ≤ sizeLine; decide), fun q1 m1 => ?_⟩⟩
    have t1 := same_new (o := .tup [.ref D, u6]) m1
    have eq1 := upd_same (H := H6) (a := q1) (o := .tup [.ref D, u6])
    have s7 := s6.trans t1
    have hu7 := hu6.same t1
    generalize upd H6 q1 (.tup [.ref D, u6]) = H7 at eq1 s7 hu7 ⊢
    refine ⟨_, rfl, _, rfl, (by show 2 ≤ sizeLine; decide), fun q2 m2 => ?_⟩
    have t2 := same_new (o := .tup [.ref p, .ref t]) m2
    have eq2 := upd_same (H := H7) (a := q2) (o := .tup [.ref p, .ref t])
    have s8 := s7.trans t2
    have eq1 := t2 _ _ eq1
    have hu8 := hu7.same t2
    generalize upd H7 q2 (.tup [.ref p, .ref t]) = H8 at eq1 eq2 s8 hu8 ⊢
    refine ⟨_, rfl, D, zs, rfl, .inl ⟨.inl (.inl (s8 _ _ eD)), fun t3 m3 => ?_⟩⟩
    have t3s := same_new (o := .tup zs) m3
    have et3 := upd_same (H := H8) (a := t3) (o := .tup zs)
    have s9 := s8.trans t3s
    have eq1 := t3s _ _ eq1
    have eq2 := t3s _ _ eq2
    have hu9 := hu8.same t3s
    generalize upd H8 t3 (.tup zs) = H9 at eq1 eq2 et3 s9 hu9 ⊢
    refine ⟨_, rfl, _, rfl, D, zs, n, ss, rfl, n5, .inl (.inl (.inl (s9 _ _ eD))), Paired.mono2 (fun _ _ h => BitsV.same s9 h) hz, ss0, by omega, fun H10 u10 g10 s10 hu10 hg10 => ⟨(by show 2 ≤ sizeLine; decide), fun q3 m3' => ⟨(by show 3 ≤ sizeLine; decide), fun q4 m4 => ?_⟩⟩⟩
    have t4 := same_new (o := .tup [.ref t3, u10]) m3'
    have t5 := same_new (o := .tup [.ref q1, .ref q2, .ref q3]) m4
    have t45 := t4.trans t5
    have eq3 := t5 _ _ (upd_same (H := H10) (a := q3) (o := .tup [.ref t3, u10]))
    have eq4 := upd_same (H := upd H10 q3 (.tup [.ref t3, u10])) (a := q4) (o := .tup [.ref q1, .ref q2, .ref q3])
    have sE := s9.trans (s10.trans t45)
    have eq1 := (s10.trans t45) _ _ eq1
    have eq2 := (s10.trans t45) _ _ eq2
    have et3 := (s10.trans t45) _ _ et3
    have hu11 := hu9.same (s10.trans t45)
    have hu12 := hu10.same t45
    generalize upd (upd H10 q3 (.tup [.ref t3, u10])) q4 (.tup [.ref q1, .ref q2, .ref q3]) = H11 at eq1 eq2 eq3 eq4 et3 sE hu11 hu12 ⊢
    have hz11 : Paired (BitsV K n H11) zs ss := Paired.mono2 (fun _ _ h => BitsV.same sE h) hz
    have hF11 := hF5.same sE
    have items : ∀ x ∈ [V.ref q1, V.ref q2, V.ref q3], ItemOk K n hs H11 x := fun x hx => by
      rcases List.mem_cons.mp hx with rfl | hx
      · exact ⟨q1, D, zs, ss, u6, g6, rfl, .inl (.inl eq1), .inl (.inl (.inl (sE _ _ eD))), hz11, ss0, ok, by omega, hu11, hg6⟩
      rcases List.mem_cons.mp hx with rfl | hx
      · exact ⟨q2, p, ws, places n hs, .ref t, hs, rfl, .inl (.inl eq2), .inl (.inl (.inl (sE _ _ ep5))), Paired.mono2 (fun _ _ h => BitsV.same sE h) PD5, ne0, (fun s h => h), lp, hF11, hullP⟩
      rw [List.mem_singleton.mp hx]
      exact ⟨q3, t3, zs, ss, u10, g10, rfl, .inl (.inl eq3), .inr (.inl (.inl et3)), hz11, ss0, ok, by omega, hu12, hg10⟩
    have sG := sB.trans (But.same (b := b) sE)
    have B11 := B5.same sE
    refine ⟨q4, rfl, ⟨_, .inl (.inl eq4)⟩, for_tup (K := K) (a := q4) (xs := [.ref q1, .ref q2, .ref q3]) (fun i σ H => ∃ y7 y8 y9 y10, σ = [some (.ref b), some (.int (n : Int)), some r, some (.ref t), some (.ref p), some (.ref D), none, y7, y8, y9, y10, none] ∧ Same H11 H)
      ⟨_, _, _, _, rfl, Same.refl _⟩ (fun i σ H _ ⟨_, _, _, _, _, s⟩ => .inl (.inl (s _ _ eq4))) ?_ ?_⟩
    · rintro i x σ H hi ⟨y7, y8, y9, y10, rfl, sH⟩
      obtain ⟨qa, a, us7, L, w, ks, rfl, hq, hS, hPL, L0, okL, lL, hw, hk⟩ := (items x (List.mem_of_getElem? hi)).same sH
      obtain ⟨d, dd, d1, d2, d3⟩ := few_data (by omega) hS hPL (by omega)
      refine ⟨qa, _, rfl, hq, rfl, .ref a, _, rfl, w, [], rfl, rfl, ?_⟩
      refine ⟨_, rfl, .ref a, d, rfl, dd _ (Same.refl _), d1, by omega, d3, _, rfl, a, us7, n, L, rfl, by omega, hS, hPL, L0, fun H12 u12 g12 s12 hu12' hg12 => ⟨(by show 2 ≤ sizeLine; decide), fun pt npt => ?_⟩⟩
      have t12 := same_new (o := .tup [.str d.shown, u12]) npt
      have ept := upd_same (H := H12) (a := pt) (o := .tup [.str d.shown, u12])
      have s13 := s12.trans t12
      have hu13 := hu12'.same t12
      generalize upd H12 pt (.tup [.str d.shown, u12]) = H13 at ept s13 hu13 ⊢
      refine ⟨pt, _, rfl, .inl (.inl ept), rfl, .str d.shown, _, rfl, u12, [], rfl, rfl, ?_⟩
      have ec : canon g12 = canon ks := hull_uniq hg12 hk
      obtain ⟨f1, f2, f3⟩ := flatD_facts hg12.flat
      have eD : flatD g12 = flatD ks := by unfold flatD; rw [ec]
      refine ⟨_, rfl, _, rfl, u12, w, flatD g12, rfl, dp_flat hu13, by rw [eD]; exact dp_flat (hw.same s13), f1, by omega, by omega, _, rfl, iteF ?_⟩
      refine ⟨_, rfl, .ref a, d, rfl, dd _ s13, d1, by omega, d3, _, rfl, rfl, _, rfl, ?_⟩
      rw [show (!decide (V.str d.shown = V.str d.shown)) = false by simp]
      refine iteF ?_
      obtain ⟨ut, uu, rfl, hut, hPu⟩ := hu13
      refine seq_iter (a := a) (xs := us7) rfl (Sq.same s13 hS) fun J sj D2 hD2 => ?_
      have bnd : ∀ l ∈ canon g12, ∀ u ∈ bts l.1, ∀ z, u < (bitsS n z).length := fun l hl u hu z => by rw [bitsS_len]; exact bits_below (canonM hg12.flat hg12.lt l hl).1 hu
      refine lc_seq sj (fun k H' => H' D2 = some (.lst (List.replicate k (V.bl true))) ∧ Same H13 H') ⟨upd_same, same_new hD2⟩ (fun k H' h => h.2) ?_ ?_
      · rintro k y H' hk ⟨eD2, s14⟩
        obtain ⟨z, hz0, hy⟩ := Paired.get hPL hk
        obtain ⟨zl, _⟩ := List.getElem?_eq_some_iff.mp hz0
        obtain ⟨tb, rfl, htb⟩ := BitsV.same (s13.trans s14) hy
        refine ⟨rfl, _, rfl, _, rfl, ut, tb, uu, canon g12, bitsS n z, rfl, sqT_same s14 hut, lines_same s14 hPu, htb, (fun l hl u hu => bnd l hl u hu z), fun H15 s15 => ?_⟩
        rw [hull_all hg12 (List.mem_of_getElem? hz0)]
        refine ⟨_, s15 _ _ eD2, ?_, ?_, same_mut (s14.trans s15) hD2⟩
        · rw [List.length_replicate]
          exact small1000 (by omega)
        · rw [upd_same, List.replicate_succ']
      rintro H14 ⟨eD2, s14⟩
      refine ⟨D2, _, rfl, .inl (.inl (.inl eD2)), rfl, flat_trues _, _, rfl, ?_⟩
      show if inV (.bl false) (List.replicate us7.length (V.bl true)) = true then _ else _
      rw [no_false]
      refine iteF ⟨_, rfl, _, rfl, .ref ut, t, us, g12, canon hs, rfl, ⟨ut, uu, rfl, sqT_same s14 hut, lines_same s14 hPu⟩, hg12.flat, ?_, ?_, (fun l hl => ⟨Nat.lt_of_lt_of_le (cb l hl).1 (Nat.pow_le_pow_right (by decide) (by omega)), (cb l hl).2⟩), fun H15 s15 => ?_⟩
      · exact sqT_same (sE.trans (sH.trans (s13.trans s14))) ht5
      · exact lines_same (sE.trans (sH.trans (s13.trans s14))) hP5
      rw [hull_in F hlt hg12 okL]
      exact ⟨_, rfl, iteF ⟨_, _, _, _, rfl, sH.trans (s13.trans (s14.trans s15))⟩⟩
    · rintro σ H ⟨y7, y8, y9, y10, rfl, sH⟩
      exact kk H (sG.trans (But.same sH)) (B11.same sH)
end
end Es
set_option Elab.async false
set_option linter.all false
set_option maxRecDepth 100000
set_option maxHeartbeats 4000000
namespace Es
open PySem PySem.Spec PyProof.Rows L2
section
variable {P : Program} {w : World} {K : PySem.W.Frag} {mg : Str → Option Value} {base : Heap}
theorem ok_law_told {f : Addr} {fd : FuncData} (F : Fun K "_law_told" "_law_told" s_law_told f fd) (T : Txt mg) (c_law_mask : CalleeOf P w K mg base 1 "_law_mask" ["row"] (sp_law_mask K)) : FnG P w K mg base 2 f fd ["flat", "row"] (sp_law_told K) := by
  refine okG F sc_law_told (fun h => ?_) (fun cdv B out t0 G ys R E hr hg h => ?_)
  · obtain ⟨v, u, hs, m, rfl, _⟩ := h
    rfl
  · obtain ⟨v, u, hs, m, rfl, hv, F, hu, m63, kk⟩ := h
    refine ⟨_, (pss_cons
        (ps_par (i := 2) (j := 3) rfl sc_law_told.nd rfl rfl (by decide) rfl rfl (pa_cons (pe_callC c_law_mask (hr.mono (by decide)) hg (by rfl) (pa_cons (pv 1) pa_nil)) (pa_cons pe_int pa_nil)) (by rfl))
        (pss_cons
        (ps_for PassesOwn.never rfl (pi_tup (pv 0)) (pg_name (i := 4) sc_law_told.nd rfl (.inl rfl))
        (pss_one
          (ps_if (pt_cmpR op_eq (pe_op op_and (pe_op op_shr (pv 2) (pe_ix ix_tup (pe_ix ix_tup (pv 4) pe_int (fun _ _ => rfl)) pe_int (fun _ _ => rfl))) pe_int) pe_int (nomark _))
          (pss_one
            (ps_par (i := 2) (j := 3) rfl sc_law_told.nd rfl rfl (by decide) rfl rfl (pa_cons (pe_op op_xor (pv 2) (pe_callC c_law_mask (hr.mono (by decide)) hg (by rfl) (pa_cons (pe_ix ix_tup (pv 4) pe_int (fun _ _ => rfl)) pa_nil))) (pa_cons (pe_op op_xor (pv 3) (pe_ix ix_tup (pv 4) pe_int (fun _ _ => rfl))) pa_nil)) (by rfl)))
          pss_nil)))
        (pss_one
        (ps_ret (pe_ifExp (pt_cmpR op_eq (pv 2) pe_int (nomark _)) (pv 3) pe_non))))), ?_⟩
    obtain ⟨t, us, rfl, htv, hP⟩ := hv
    refine ⟨_, rfl, u, m, rfl, hu, m63, _, _, rfl, ?_⟩
    have lenU : us.length = (srt (hs.map (·.1))).length := (Paired.len hP).trans (canon_eq_len hs)
    refine ⟨_, rfl, t, rfl, ⟨us, htv⟩, for_tup (K := K) (a := t) (xs := us)
      (fun i σ H => ∃ y4, σ = [some (.ref t), some u, some (.int ((((srt (hs.map (·.1))).take i).foldl (lred1 hs) (m, 0)).1 : Int)), some (.int ((((srt (hs.map (·.1))).take i).foldl (lred1 hs) (m, 0)).2 : Int)), y4] ∧ Same G H)
      ⟨_, rfl, Same.refl _⟩ (fun i σ H _ ⟨_, _, s⟩ => sqT_same s htv) ?_ ?_⟩
    · rintro i x σ H hi ⟨y4, rfl, s1⟩
      obtain ⟨l, hli, hx⟩ := Paired.get hP hi
      obtain ⟨e, he, rfl, hh1⟩ := canon_get F hli
      have hjl := (List.getElem?_eq_some_iff.mp hh1).1
      obtain ⟨tx, rx, rfl, htx, ⟨px, rfl, hpx⟩⟩ := hx
      obtain ⟨tl, htl⟩ := low_cons (F.least e he)
      have eb : iv (bts e.2.1) = .int (e.1 : Int) :: iv tl := by rw [htl]; rfl
      have at0 : atI (iv (bts e.2.1)) 0 = some (.int (e.1 : Int)) := by rw [eb]; exact atI_nat (j := 0) rfl
      have fold1 : ((srt (hs.map (·.1))).take (i + 1)).foldl (lred1 hs) (m, 0) = lred1 hs (((srt (hs.map (·.1))).take i).foldl (lred1 hs) (m, 0)) e.1 := by
        rw [List.take_succ_eq_append_getElem hjl, List.foldl_append, (List.getElem?_eq_some_iff.mp hh1).2]
        rfl
      rw [fold1]
      generalize ((srt (hs.map (·.1))).take i).foldl (lred1 hs) (m, 0) = pr
      have lk := look_of F.red.nd he
      refine ⟨_, rfl, _, rfl, tx, _, 0, _, rfl, rfl, sqT_same s1 htx, atI_nat (j := 0) rfl, px, _, 0, _, rfl, rfl, sqT_same s1 hpx, at0, _, _, rfl, rfl, Int.natCast_nonneg _, _, _, rfl, rfl, rfl, _, rfl, ?_⟩
      have sa1 := shr_and pr.1 e.1
      refine ite2 (fun hc => ?_) (fun hc => ?_)
      · have q : pr.1.testBit e.1 = true := by
          cases q : pr.1.testBit e.1 with
          | true => rfl
          | false =>
            rw [q, if_neg Bool.false_ne_true] at sa1
            have z := V.int.inj (of_decide_eq_true hc)
            rw [sa1] at z
            cases z
        have l1 : lred1 hs pr e.1 = (pr.1 ^^^ e.2.1, pr.2 ^^^ e.2.2) := by
          unfold lred1
          rw [if_pos q, lk]
        refine ⟨_, rfl, _, rfl, tx, _, 0, _, rfl, rfl, sqT_same s1 htx, atI_nat (j := 0) rfl, .ref px, e.2.1, rfl, ⟨px, rfl, sqT_same s1 hpx⟩, (F.red.own e he).2.1, ?_⟩
        refine ⟨_, _, rfl, rfl, _, rfl, _, rfl, tx, _, 1, _, rfl, rfl, sqT_same s1 htx, atI_nat (j := 1) rfl, _, _, rfl, rfl, _, _, rfl, ?_⟩
        rw [l1]
        refine ⟨some (V.ref tx), ?_, s1⟩
        show [some (V.ref t), some u, some (V.int (Builtin.bitXor (pr.1 : Int) (e.2.1 : Int))), some (V.int (Builtin.bitXor (pr.2 : Int) (e.2.2 : Int))), _] = _
        rw [xor_nat, xor_nat]
      · have q : ¬ pr.1.testBit e.1 = true := fun q => by
          rw [q, if_pos rfl] at sa1
          exact hc (decide_eq_true (congrArg V.int sa1))
        have l1 : lred1 hs pr e.1 = pr := by
          unfold lred1
          rw [if_neg q]
        rw [l1]
        exact ⟨some (V.ref tx), rfl, s1⟩
    · rintro σ H ⟨y4, rfl, s1⟩
      rw [lenU, List.take_length]
      have ew : (srt (hs.map (·.1))).foldl (lred1 hs) (m, 0) = wh hs (m, 0) := (wh_lred F.red (m, 0)).symm
      rw [ew]
      have hk := kk H s1
      unfold toldV at hk
      refine ⟨_, rfl, rfl, _, rfl, ite2 (fun hc => ?_) (fun hc => ?_)⟩
      · have z : (wh hs (m, 0)).1 = 0 := by have := V.int.inj (of_decide_eq_true hc); omega
        rw [if_pos z] at hk
        exact ⟨_, rfl, hk⟩
      · have z : ¬ (wh hs (m, 0)).1 = 0 := fun z => hc (decide_eq_true (by rw [z]; rfl))
        rw [if_neg z] at hk
        exact hk
end
end Es
set_option Elab.async false
set_option linter.all false
set_option maxRecDepth 100000
set_option maxHeartbeats 4000000
namespace Es
open PySem PySem.Spec PyProof.Rows L2
section
variable {P : Program} {w : World} {K : PySem.W.Frag} {mg : Str → Option Value} {base : Heap}
theorem ok_law_halves {f : Addr} {fd : FuncData} (F : Fun K "_law_halves" "_law_halves" s_law_halves f fd) (T : Txt mg) (c_law_flat_of : CalleeOf P w K mg base 2 "_law_flat_of" ["lines"] (sp_flat_of K)) : FnG P w K mg base 3 f fd ["flat", "row"] (sp_law_halves K) := by
  refine okG F sc_law_halves (fun h => ?_) (fun cdv B out t0 G ys R E hr hg h => ?_)
  · obtain ⟨v, u, hs, m, rfl, _⟩ := h
    rfl
  · obtain ⟨v, u, hs, m, rfl, hv, F, hu, m63, kk⟩ := h
    refine ⟨_, (pss_one
        (ps_ret (pe_callTy call_tuple_of (by rfl) T.z_tuple (by decide +kernel) (pa_cons (pe_lc (own := [("bit", 2)]) rfl sc_law_halves.nd (pi_tup (pe_tup (pa_cons pe_int (pa_cons pe_int pa_nil)))) (blkOk_by (own := [("bit", 2)]) (N := ["flat", "row", "bit"]) (sc := defScope s_law_halves) (by decide +kernel)) (fun _ _ _ _ _ => (pg_name (i := 2) sc_law_halves.nd rfl (.inl rfl))) (fun _ _ _ _ _ => pts_nil) (fun _ _ _ _ _ => (pe_callC c_law_flat_of (hr.mono (by decide)) hg (by rfl) (pa_cons (pe_op op_cat (pe_callTy (r := rListK K) call_list_of (by rfl) T.z_list (by decide +kernel) (pa_cons (pv 0) pa_nil)) (pe_lst (pa_cons (pe_tup (pa_cons (pv 1) (pa_cons (pv 2) pa_nil))) pa_nil))) pa_nil)))) pa_nil)))), ?_⟩
    obtain ⟨t, us, rfl, htv, hP⟩ := hv
    have lenU : us.length ≤ 63 := by rw [Paired.len hP]; exact canon_len hs
    refine ⟨(by show 2 ≤ sizeLine; decide), fun p0 np0 => ?_⟩
    have s0 := same_new (o := .tup [V.int 0, V.int 1]) np0
    refine ⟨p0, rfl, ⟨_, .inl (.inl upd_same)⟩, fun D hD => ?_⟩
    refine lc_tup (K := K) (a := p0) (xs := [V.int 0, V.int 1]) (fun i H => ∃ zs, H D = some (.lst zs) ∧ Same (upd G p0 (.tup [V.int 0, V.int 1])) H ∧ zs.length = i ∧ ∀ j v, zs[j]? = some v → OptFlat K H v (lflat (canon hs ++ [(m, j)])))
      ⟨[], upd_same, same_new hD, rfl, fun j v h => by simp at h⟩ (fun i H _ ⟨_, _, s, _⟩ => .inl (.inl (s _ _ upd_same))) ?_ ?_
    · rintro i x H hi ⟨zs, eD, s1, lz, hz⟩
      obtain ⟨i2, rfl⟩ : i < 2 ∧ x = V.int (i : Int) := by
        rcases i with _ | _ | i
        · exact ⟨by decide, (Option.some.inj hi).symm⟩
        · exact ⟨by decide, (Option.some.inj hi).symm⟩
        · simp at hi
      have s01 := s0.trans s1
      refine ⟨rfl, _, rfl, t, us, rfl, .inr (sqT_same s01 htv), fun l1 nl1 => ?_⟩
      have s2 := same_new (o := .lst us) nl1
      refine ⟨_, rfl, _, rfl, (by show 2 ≤ sizeLine; decide), fun p1 np1 => ⟨(by show 1 ≤ sizeLine; decide), fun l2 nl2 => ?_⟩⟩
      have s3 := (same_new (o := .tup [u, V.int (i : Int)]) np1).trans (same_new (o := .lst [V.ref p1]) nl2)
      refine ⟨l1, l2, us, [V.ref p1], rfl, rfl, s3 _ _ upd_same, upd_same, ?_, fun l3 nl3 => ?_⟩
      · show us.length + 1 ≤ sizeLine
        exact Nat.le_of_lt (small1000 (by omega))
      have s4 := same_new (o := .lst (us ++ [V.ref p1])) nl3
      have s24 := (s2.trans s3).trans s4
      refine ⟨l3, us ++ [V.ref p1], canon hs ++ [(m, i)], rfl, .inl (.inl upd_same), PySem.Paired.snoc (lines_same (s01.trans s24) hP) ⟨p1, u, rfl, .inl (.inl (s4 _ _ (same_new nl2 _ _ upd_same))), hu.same (s01.trans s24)⟩, canon_snoc_lt F m63 i2, fun H5 v5 s5 hv5 => ?_⟩
      have s25 := s24.trans s5
      have eD5 := s25 _ _ eD
      refine ⟨zs, eD5, small1000 (by omega), zs ++ [v5], upd_same, same_mut (s1.trans s25) hD, by simp [lz], fun j v hj => ?_⟩
      by_cases z : j < zs.length
      · rw [List.getElem?_append_left z] at hj
        exact optFlat_but eD5 But.at_ (optFlat_same s25 (hz j v hj))
      · rw [List.getElem?_append_right (by omega)] at hj
        have jj : j = i := by
          have := (List.getElem?_eq_some_iff.mp hj).1
          simp at this
          omega
        rw [jj, ← lz, Nat.sub_self] at hj
        have hj : v5 = v := Option.some.inj hj
        rw [← hj, jj]
        exact optFlat_but eD5 But.at_ hv5
    · rintro H ⟨zs, eD, s1, lz, hz⟩
      obtain ⟨v0, v1, rfl⟩ : ∃ v0 v1, zs = [v0, v1] := by
        rcases zs with _ | ⟨v0, _ | ⟨v1, _ | ⟨v2, zs⟩⟩⟩
        · cases lz
        · cases lz
        · exact ⟨v0, v1, rfl⟩
        · cases lz
      refine ⟨D, _, rfl, .inl ⟨.inl (.inl eD), fun q nq => ?_⟩⟩
      have s2 := same_new (o := .tup [v0, v1]) nq
      exact kk _ q v0 v1 ((s0.trans s1).trans s2) (s0.free (s1.free nq)) upd_same (optFlat_same s2 (hz 0 v0 rfl)) (optFlat_same s2 (hz 1 v1 rfl))
end
end Es
set_option Elab.async false
set_option linter.all false
set_option maxRecDepth 100000
set_option maxHeartbeats 4000000
namespace Es
open PySem PySem.Spec PyProof.Rows L2
section
variable {P : Program} {w : World} {K : PySem.W.Frag} {mg : Str → Option Value} {base : Heap}
theorem ok_law_all_flats {f : Addr} {fd : FuncData} (F : Fun K "_law_all_flats" "_law_all_flats" s_law_all_flats f fd) (T : Txt mg) (c_law_told : CalleeOf P w K mg base 2 "_law_told" ["flat", "row"] (sp_law_told K)) (c_law_row : CalleeOf P w K mg base 1 "_law_row" ["mask"] (sp_law_row K)) (c_law_halves : CalleeOf P w K mg base 3 "_law_halves" ["flat", "row"] (sp_law_halves K)) : FnG P w K mg base 4 f fd ["many"] (sp_law_all_flats K) := by
  refine okG F sc_law_all_flats (fun h => ?_) (fun cdv B out t0 G ys R E hr hg h => ?_)
  · obtain ⟨n, rfl, _⟩ := h
    rfl
  · obtain ⟨n, rfl, n4, kk⟩ := h
    refine ⟨_, (pss_cons
        (ps_par (i := 1) (j := 2) rfl sc_law_all_flats.nd rfl rfl (by decide) rfl rfl (pa_cons (pe_disp1NE (K := K) (P := P) (w := w) rfl rfl rfl hr.units (pe_tup pa_nil) pe_bl) (pa_cons (pe_lst (pa_cons (pe_tup pa_nil) pa_nil)) pa_nil)) (by rfl))
        (pss_cons
        (ps_while PassesOwn.never (pt_cmpR (op_neD hr.units) (pv 2) (pe_lst pa_nil) (nomark _))
        (pss_cons
          (ps_set (i := 3) sc_law_all_flats.nd rfl (Or.inl rfl) (pe_bm0 PySem.F.plainAttrs_list PySem.F.slot_list_pop PySem.F.type_list_pop mt_pop (pv 2)))
          (pss_one
          (ps_for PassesOwn.never rfl (pi_range2 (by rfl) T.z_range (pa_cons pe_int (pa_cons (pe_op op_shl pe_int (pv 0)) pa_nil))) (pg_name (i := 4) sc_law_all_flats.nd rfl (.inl rfl))
          (pss_one
            (ps_if (pt_cmpR op_isN (pe_callC c_law_told (hr.mono (by decide)) hg (by rfl) (pa_cons (pv 3) (pa_cons (pe_callC c_law_row (hr.mono (by decide)) hg (by rfl) (pa_cons (pv 4) pa_nil)) pa_nil))) pe_non (nomark _))
            (pss_one
              (ps_for PassesOwn.never rfl (pi_tup (pe_callC c_law_halves (hr.mono (by decide)) hg (by rfl) (pa_cons (pv 3) (pa_cons (pe_callC c_law_row (hr.mono (by decide)) hg (by rfl) (pa_cons (pv 4) pa_nil)) pa_nil)))) (pg_name (i := 5) sc_law_all_flats.nd rfl (.inl rfl))
              (pss_one
                (ps_if (pt_cmp (pc_dnotinNE (K := K) (P := P) (w := w) rfl rfl rfl hr.units (pv 5) (pv 1)))
                (pss_cons
                  (ps_dputNE (K := K) (P := P) (w := w) rfl rfl rfl hr.units (pv 1) (pv 5) pe_bl rfl)
                  (pss_one
                  (ps_expr (pe_bm PySem.F.plainAttrs_list PySem.F.slot_list_append PySem.F.type_list_append mt_append (pv 2) (pa_cons (pv 5) pa_nil)))))
                pss_nil))))
            pss_nil))))))
        (pss_one
        (ps_ret (pe_callB (cr_sortedDNE (K := K) (P := P) (w := w) rfl rfl rfl rfl hr.units) (by rfl) T.z_sorted (by decide +kernel) (pa_cons (pv 1) pa_nil)))))), ?_⟩
    have p4 : 2 ^ n ≤ 2 ^ 4 := Nat.pow_le_pow_right (by decide) n4
    have p0 : 0 < 2 ^ n := Nat.two_pow_pos n
    refine fun d nd => ⟨(by show 0 ≤ sizeLine; decide), fun t0 n0 => ?_⟩
    have e1 := upd_same (H := G) (a := d) (o := .dK [])
    have r1 := same_new (o := .dK []) nd
    have r2 := same_new (o := .tup []) n0
    have e2 := r2 _ _ e1
    have ht0 : LinesV K (upd (upd G d (.dK [])) t0 (.tup [])) (.ref t0) [] := ⟨t0, [], rfl, .inl (.inl upd_same), .nil⟩
    refine ⟨e2, t0, flatK [], rfl, flatK_key ht0, (by show 0 ≤ sizeLine; decide), fun t1 n1 => ⟨(by show 1 ≤ sizeLine; decide), fun l nl => ⟨_, _, rfl, ?_⟩⟩⟩
    have e1' := upd_same (H := upd (upd G d (.dK [])) t0 (.tup [])) (a := d) (o := DictNO P w d [(flatK [], t0, V.bl true)])
    have ndt : t0 ≠ d := fun z => by
      rw [z, e1] at n0
      cases n0
    have ht1 : LinesV K (upd (upd (upd G d (.dK [])) t0 (.tup [])) d (DictNO P w d [(flatK [], t0, V.bl true)])) (.ref t0) [] := ⟨t0, [], rfl, .inl (.inl (by rw [upd_ne ndt]; exact upd_same)), .nil⟩
    have sD : Same G (upd (upd (upd G d (.dK [])) t0 (.tup [])) d (DictNO P w d [(flatK [], t0, V.bl true)])) := same_mut (r1.trans r2) nd
    have r3 := same_new (o := .tup []) n1
    have r4 := same_new (o := .lst [V.ref t1]) nl
    have st0 : StA K P w (upd (upd (upd (upd (upd G d (.dK [])) t0 (.tup [])) d (DictNO P w d [(flatK [], t0, V.bl true)])) t1 (.tup [])) l (.lst [V.ref t1])) d l [(t0, [])] [(t1, [])] := by
      refine ⟨(r3.trans r4) _ _ e1', upd_same, fun c hc => ?_, fun c hc => ?_⟩
      · rw [List.mem_singleton.mp hc]
        exact ht1.same (r3.trans r4)
      · rw [List.mem_singleton.mp hc]
        exact ⟨t1, [], rfl, .inl (.inl (r4 _ _ upd_same)), .nil⟩
    have sG := sD.trans (r3.trans r4)
    have gl : G l = none := (sD.trans r3).free nl
    generalize upd (upd (upd (upd (upd G d (.dK [])) t0 (.tup [])) d (DictNO P w d [(flatK [], t0, V.bl true)])) t1 (.tup [])) l (.lst [V.ref t1]) = H0 at st0 sG ⊢
    refine ⟨fun k σ H => ∃ cs ss y3 y4 y5, σ = [some (.int (n : Int)), some (.ref d), some (.ref l), y3, y4, y5] ∧ Same G H ∧ StA K P w H d l cs ss ∧ MA n cs ss (fun _ => False) ∧ 2 * (307 - cs.length) + ss.length ≤ k ∧ k ≤ 613,
      ⟨613, _, _, _, _, _, rfl, sG, st0, MA.start n t0 t1, Nat.le_refl 613, Nat.le_refl 613⟩, ?_⟩
    rintro k σ H ⟨cs, ss, y3, y4, y5, rfl, s1, st, ma, mk, k613⟩
    have l307 := ma.len n4
    refine ⟨_, rfl, Nat.zero_le _, fun e ne => ?_⟩
    have re := same_new (o := .lst []) ne
    have dl : ∀ H', Same H H' → Dp K H' (.ref l) (.list (ss.map fun c => flD c.2)) := fun H' s => by
      refine .lst (.inl (.inl ((st.same s).el))) ?_
      have : ∀ ts : Cs, (∀ c ∈ ts, LinesV K H' (.ref c.1) c.2) → DpAll K H' (refsC ts) (ts.map fun c => flD c.2) := by
        intro ts
        induction ts with
        | nil => intro _; exact .nil
        | cons c ts ih => intro h; exact .cons (dp_linesV (h c List.mem_cons_self)) (ih fun x hx => h x (List.mem_cons_of_mem _ hx))
      exact this ss (st.same s).hs
    have sh : SeqAt.shaped (.list (ss.map fun c => flD c.2)) = true := by
      refine nice_shaped (niceAll_iff.mpr fun x hx => ?_) ?_
      · obtain ⟨c, hc, rfl⟩ := List.mem_map.mp hx
        have W := ma.wf c.2 (ma.sub c.2 (List.mem_map.mpr ⟨c, hc, rfl⟩))
        exact (linesT_facts (n := n) (by omega) (ls := c.2) fun l hl => ⟨(W.ok l hl).1, (W.ok l hl).2.2⟩).1
      · show PyData.depthAll (ss.map fun c => flD c.2) + 1 ≤ 40
        have : ∀ ts : Cs, PyData.depthAll (ts.map fun c => flD c.2) ≤ 3 := by
          intro ts
          induction ts with
          | nil => exact Nat.zero_le _
          | cons c ts ih =>
            show max (flD c.2).depth (PyData.depthAll (ts.map fun c => flD c.2)) ≤ 3
            have : (flD c.2).depth ≤ 3 := by
              have := depth_lines c.2
              show PyData.depthAll _ + 1 ≤ 3
              omega
            omega
        have := this ss
        omega
    refine ⟨_, _, dl _ re, dp_nil (.inl (.inl upd_same)), sh, by decide +kernel, _, rfl, ?_⟩
    rcases List.eq_nil_or_concat ss with rfl | ⟨ss', x, rfl⟩
    · refine iteF ?_
      have s2 := s1.trans re
      have st2 := st.same re
      generalize upd H e (.lst []) = H2 at s2 st2 ⊢
      have ek : (keysA (entsC cs)).map (fun e => e.2.data) = (flats cs).map flD := by
        unfold keysA entsC flats
        rw [List.map_map, List.map_map, List.map_map]
        exact List.map_congr_left fun c _ => flatK_data c.2
      have al : PySem.W.AllAlike ((keysA (entsC cs)).map fun e => e.2.data) := by
        rw [ek]
        exact alike_all (f := fun x => x)
      refine ⟨_, rfl, d, entsC cs, rfl, st2.ed, st2.keys, al, by rw [ek]; exact sort_ok ma.hd, fun e he => ?_, fun p np => ?_⟩
      · have : e.2.data ∈ (flats cs).map flD := by
          rw [← ek]
          exact List.mem_map.mpr ⟨e, he, rfl⟩
        obtain ⟨fl, _, q⟩ := List.mem_map.mp this
        rw [← q]
        exact flD_depth fl
      have rp := same_new (o := .lst ((byData (keysA (entsC cs))).map fun e => V.ref e.1)) np
      refine kk _ p _ (s2.trans rp) (same_free s2 np) upd_same fun H9 sH => ?_
      have es : (byData (keysA (entsC cs))).map (fun e => e.2.data) = sortedD n := sort_same (f := fun e : Addr × NestedKey => e.2.data) (by rw [ek]; exact ma.done n4) al
      rw [← es]
      have go : ∀ L : List (Addr × NestedKey), (∀ e ∈ L, KeyV K H9 e) → DpAll K H9 (L.map fun e => V.ref e.1) (L.map fun e => e.2.data) := by
        intro L
        induction L with
        | nil => intro _; exact .nil
        | cons e L ih => intro h; exact .cons (h e List.mem_cons_self).1 (ih fun x hx => h x (List.mem_cons_of_mem _ hx))
      refine go _ fun e he => ?_
      have me := (List.mergeSort_perm _ _).mem_iff.mp he
      obtain ⟨e0, he0, rfl⟩ := List.mem_map.mp me
      exact (st2.same (rp.trans sH)).keys e0 he0
    · have ee : PyData.eqv (.list ((ss'.concat x).map fun c => flD c.2)) (.list []) = false := by
        rw [List.concat_eq_append, List.map_append]
        cases ss'.map (fun c => flD c.2) <;> rfl
      rw [ee]
      refine iteT ?_
      rw [List.concat_eq_append] at st ma mk
      have s2 := s1.trans re
      have st2 := st.same re
      generalize upd H e (.lst []) = H2 at s2 st2 ⊢
      refine ⟨fun σ' H' => ∃ m, m < k ∧ ∃ cs ss y3 y4 y5, σ' = [some (.int (n : Int)), some (.ref d), some (.ref l), y3, y4, y5] ∧ Same G H' ∧ StA K P w H' d l cs ss ∧ MA n cs ss (fun _ => False) ∧ 2 * (307 - cs.length) + ss.length ≤ m ∧ m ≤ 613, fun σ' H' ⟨m, hm, q⟩ => ⟨m, hm, q⟩, ?_⟩
      have el2 := st2.el
      have er : refsC (ss' ++ [x]) = refsC ss' ++ [V.ref x.1] := by unfold refsC; rw [List.map_append]; rfl
      have gl' : (refsC (ss' ++ [x]))[(refsC (ss' ++ [x])).length - 1]? = some (V.ref x.1) := by
        rw [er, List.length_append, List.length_singleton, Nat.add_sub_cancel, List.getElem?_append_right (Nat.le_refl _), Nat.sub_self]
        rfl
      have dr : (refsC (ss' ++ [x])).dropLast = refsC ss' := by rw [er, List.dropLast_concat]
      obtain ⟨st3, hx3⟩ := st2.pop
      obtain ⟨ma3, mx⟩ := ma.take
      have s3 : Same G (upd H2 l (.lst (refsC ss'))) := same_mut s2 gl
      refine ⟨_, rfl, .inl ⟨rfl, _, .inl (.inl el2)⟩, l, _, .ref x.1, rfl, rfl, el2, gl', ?_⟩
      rw [dr]
      generalize upd H2 l (.lst (refsC ss')) = H3 at st3 hx3 s3 ⊢
      have W := ma3.wf x.2 mx
      obtain ⟨F, ec, hlt⟩ := wf_flat (by omega) W
      have asF : ∀ {H' : Hp}, LinesV K H' (.ref x.1) x.2 → FlatV K H' (.ref x.1) (hsOf x.2) := fun h => by
        obtain ⟨t, us, e, ht, hP⟩ := h
        exact ⟨t, us, e, ht, by rw [ec]; exact hP⟩
      have en : (1 : Int) * 2 ^ ((n : Int).toNat) = ((2 ^ n : Nat) : Int) := shl_one n
      have ez : ((1 : Int) * 2 ^ ((n : Int).toNat) - 1).toNat = 2 ^ n - 1 := by rw [en]; omega
      rw [List.length_append, List.length_singleton] at mk
      refine ⟨_, rfl, _, _, rfl, rfl, ⟨by omega, by omega, by decide⟩, 1, _, rfl, ⟨by decide, by decide, by rw [en]; omega, by rw [en]; omega⟩, ?_⟩
      rw [ez]
      refine for_range (lo := 1) (n := 2 ^ n - 1) (fun i σ H => ∃ cs ss y4 y5, σ = [some (.int (n : Int)), some (.ref d), some (.ref l), some (.ref x.1), y4, y5] ∧ Same G H ∧ StA K P w H d l cs ss ∧ LinesV K H (.ref x.1) x.2 ∧ MA n cs ss (fun fl => fl = x.2) ∧ x.2 ∈ flats cs ∧ ClosedTo n (flats cs) x.2 (2 * (i + 1)) ∧ 2 * (307 - cs.length) + ss.length < k)
        ⟨cs, ss', _, _, rfl, s3, st3, hx3, ma3, mx, ClosedTo.zero _ _ _, by omega⟩ ?_ ?_
      · rintro i σ H hi ⟨cs, ss, y4, y5, rfl, s4, st4, hx4, ma4, mx4, cl4, mk4⟩
        have im : i + 1 < 2 ^ n := by omega
        have im63 : i + 1 < 2 ^ 63 := Nat.lt_of_lt_of_le im (Nat.pow_le_pow_right (by decide) (by omega))
        have ei : (1 : Int) + (i : Int) = ((i + 1 : Nat) : Int) := by omega
        rw [ei]
        refine ⟨_, rfl, _, rfl, i + 1, rfl, im63, fun H4 p s5 np ep => ⟨.ref x.1, .ref p, hsOf x.2, i + 1, rfl, asF (hx4.same s5), F, ⟨p, rfl, .inl (.inl ep)⟩, im63, fun H5 s6 => ⟨rfl, _, rfl, ?_⟩⟩⟩
        have s46 := s5.trans s6
        by_cases c : (wh (hsOf x.2) (i + 1, 0)).1 = 0
        · have et : toldV (hsOf x.2) (i + 1) = .int ((wh (hsOf x.2) (i + 1, 0)).2 : Int) := by unfold toldV; rw [if_pos c]
          rw [et]
          refine iteF ⟨cs, ss, _, _, rfl, s4.trans s46, st4.same s46, hx4.same s46, ma4, mx4, cl4.skip c, mk4⟩
        · have et : toldV (hsOf x.2) (i + 1) = .non := by unfold toldV; rw [if_neg c]
          rw [et]
          have hx5 := hx4.same s46
          have st5 := st4.same s46
          refine iteT ⟨_, rfl, _, rfl, i + 1, rfl, im63, fun H6 p2 s7 np2 ep2 => ⟨.ref x.1, .ref p2, hsOf x.2, i + 1, rfl, asF (hx5.same s7), F, ⟨p2, rfl, .inl (.inl ep2)⟩, im63, fun H7 q v0 v1 s8 nq eq o0 o1 => ⟨q, rfl, ⟨_, .inl (.inl eq)⟩, ?_⟩⟩⟩
          have s78 := s7.trans s8
          obtain ⟨g0, e0, F0, lt0, _⟩ := half_is F (by omega) hlt im (b := 0) (by decide) c
          obtain ⟨g1, e1, F1, lt1, _⟩ := half_is F (by omega) hlt im (b := 1) (by decide) c
          rw [e0] at o0
          rw [e1] at o1
          rw [ec] at e0 e1
          have o0 : LinesV K H7 v0 (canon g0) := o0
          have o1 : LinesV K H7 v1 (canon g1) := o1
          have W0 := flat_wf F0 lt0
          have W1 := flat_wf F1 lt1
          refine for_tup (K := K) (a := q) (xs := [v0, v1]) (fun j σ H => ∃ cs ss y5, σ = [some (.int (n : Int)), some (.ref d), some (.ref l), some (.ref x.1), some (.int ((i + 1 : Nat) : Int)), y5] ∧ Same G H ∧ StA K P w H d l cs ss ∧ LinesV K H (.ref x.1) x.2 ∧ LinesV K H v0 (canon g0) ∧ LinesV K H v1 (canon g1) ∧ H q = some (.tup [v0, v1]) ∧ MA n cs ss (fun fl => fl = x.2) ∧ x.2 ∈ flats cs ∧ ClosedTo n (flats cs) x.2 (2 * (i + 1) + j) ∧ 2 * (307 - cs.length) + ss.length < k)
            ⟨cs, ss, _, rfl, s4.trans (s46.trans s78), st5.same s78, hx5.same s78, o0, o1, eq, ma4, mx4, cl4, mk4⟩ (fun j σ H _ ⟨_, _, _, _, _, _, _, _, _, e, _⟩ => .inl (.inl e)) ?_ ?_
          · rintro j v σ H hj ⟨cs, ss, y5, rfl, s9, st9, hx9, h0, h1, eq9, ma9, mx9, cl9, mk9⟩
            have item : ∃ gs, lflat (x.2 ++ [(i + 1, j)]) = some gs ∧ LinesV K H v (canon gs) ∧ WF n (canon gs) ∧ j < 2 := by
              rcases j with _ | _ | j
              · have := Option.some.inj hj
                exact ⟨g0, e0, this ▸ h0, W0, by decide⟩
              · have := Option.some.inj hj
                exact ⟨g1, e1, this ▸ h1, W1, by decide⟩
              · cases hj
            obtain ⟨gs, eg, hg, Wg, j2⟩ := item
            have vr : ∃ a, v = .ref a := by
              obtain ⟨a, _, e, _⟩ := hg
              exact ⟨a, e⟩
            obtain ⟨a, rfl⟩ := vr
            have key := flatK_key hg
            have has := ents_has (by omega) ma9.wf Wg
            have many9 := ma9.len n4
            refine ⟨_, rfl, _, rfl, d, a, flatK (canon gs), entsC cs, rfl, rfl, st9.ed, st9.keys, key, _, rfl, ?_⟩
            by_cases c2 : canon gs ∈ flats cs
            · rw [decide_eq_true (has.mpr c2)]
              refine iteF ⟨cs, ss, _, rfl, s9, st9, hx9, h0, h1, eq9, ma9, mx9, cl9.next j2 eg c2, mk9⟩
            · have c3 : flatK (canon gs) ∉ (entsC cs).map (·.1) := fun z => c2 (has.mp z)
              rw [decide_eq_false c3]
              refine iteT ?_
              have le : (entsC cs).length < sizeLine := by
                unfold entsC
                rw [List.length_map]
                exact small1000 (by omega)
              refine ⟨_, rfl, _, rfl, d, a, flatK (canon gs), entsC cs, rfl, rfl, st9.ed, st9.keys, key, le, ?_⟩
              rw [ents_snoc (x := (a, canon gs)) c3]
              have st10 := st9.put (x := (a, canon gs)) hg
              have ed := st9.ed
              have hg10 := hg.dict ed (But.at_ (b := d) (H := H) (o := DictNO P w d (entsC (cs ++ [(a, canon gs)]))))
              have hx10 := hx9.dict ed (But.at_ (b := d) (H := H) (o := DictNO P w d (entsC (cs ++ [(a, canon gs)]))))
              have h010 := h0.dict ed (But.at_ (b := d) (H := H) (o := DictNO P w d (entsC (cs ++ [(a, canon gs)]))))
              have h110 := h1.dict ed (But.at_ (b := d) (H := H) (o := DictNO P w d (entsC (cs ++ [(a, canon gs)]))))
              have qd : q ≠ d := fun z => by
                rw [z, ed] at eq9
                cases eq9
              have eq10 : upd H d (DictNO P w d (entsC (cs ++ [(a, canon gs)]))) q = some (.tup [v0, v1]) := by rw [upd_ne qd]; exact eq9
              have s10 : Same G (upd H d (DictNO P w d (entsC (cs ++ [(a, canon gs)])))) := same_mut s9 nd
              generalize upd H d (DictNO P w d (entsC (cs ++ [(a, canon gs)]))) = H10 at st10 hg10 hx10 h010 h110 eq10 s10 ⊢
              have el10 := st10.el
              have ql : q ≠ l := fun z => by
                rw [z, el10] at eq10
                cases eq10
              have ma10 := ma9.put (x := (a, canon gs)) Wg c2
              have many10 := ma10.len n4
              have lss : ss.length ≤ 613 := by omega
              refine ⟨_, rfl, .inl ⟨rfl, _, .inl (.inl el10)⟩, _, rfl, l, refsC ss, .ref a, rfl, rfl, el10, ?_, ?_⟩
              · unfold refsC
                rw [List.length_map]
                exact small1000 (by omega)
              have er : refsC ss ++ [V.ref a] = refsC (ss ++ [(a, canon gs)]) := by unfold refsC; rw [List.map_append]; rfl
              rw [er]
              refine ⟨cs ++ [(a, canon gs)], ss ++ [(a, canon gs)], _, rfl, same_mut s10 gl, st10.push (x := (a, canon gs)) hg10, hx10.but el10 But.at_, h010.but el10 But.at_, h110.but el10 But.at_, by rw [upd_ne ql]; exact eq10, ma10, flats_mono _ mx9, (cl9.mono flats_mono).next j2 eg ?_, ?_⟩
              · unfold flats
                rw [List.map_append]
                exact List.mem_append_right _ (List.mem_singleton.mpr rfl)
              · rw [List.length_append, List.length_append, List.length_singleton] at *
                omega
          · rintro σ H ⟨cs, ss, y5, rfl, s9, st9, hx9, h0, h1, eq9, ma9, mx9, cl9, mk9⟩
            exact ⟨cs, ss, _, _, rfl, s9, st9, hx9, ma9, mx9, cl9, mk9⟩
      · rintro σ H ⟨cs, ss, y4, y5, rfl, s4, st4, hx4, ma4, mx4, cl4, mk4⟩
        have e : 2 * (2 ^ n - 1 + 1) = 2 * 2 ^ n := by omega
        rw [e] at cl4
        exact ⟨2 * (307 - cs.length) + ss.length, mk4, cs, ss, _, _, _, rfl, s4, st4, ma4.drop cl4, Nat.le_refl _, by omega⟩
end
end Es
set_option Elab.async false
set_option linter.all false
set_option maxRecDepth 100000
set_option maxHeartbeats 4000000
namespace Es
open PySem PySem.Spec PyProof.Rows L2
section
variable {P : Program} {w : World} {K : PySem.W.Frag} {mg : Str → Option Value} {base : Heap}
theorem ok_lines_ahead {f : Addr} {fd : FuncData} (F : Fun K "_lines_ahead" "_lines_ahead" s_lines_ahead f fd) (T : Txt mg)  : FnG P w K mg base 1 f fd ["many", "unknown", "flat"] (sp_lines_ahead K) := by
  refine okG F sc_lines_ahead (fun h => ?_) (fun cdv B out t0 G ys R E hr hg h => ?_)
  · obtain ⟨n, u, v, fl, rfl, _⟩ := h
    rfl
  · obtain ⟨n, u, v, fl, rfl, ⟨t, us, rfl, ht, hP⟩, n4, un, ok, l4, kk⟩ := h
    refine ⟨_, (pss_cons
        (ps_setLc (i := 3) (own := [("row", 4), ("bit", 5)]) (g := (gTup K 2 (gCons (gName 4) (gCons (gName 5) gNil)))) rfl sc_lines_ahead.nd rfl rfl (sw_true rfl rfl rfl (by decide +kernel)) (pi_tup (pv 2)) (blkOk_by (own := [("row", 4), ("bit", 5)]) (N := ["many", "unknown", "flat", "heads", "row", "bit", "rows", "other"]) (sc := defScope s_lines_ahead) (by decide +kernel)) (fun _ _ _ _ _ => (pg_tup (by rfl) (pgs_cons (pg_name (i := 4) sc_lines_ahead.nd rfl (.inl rfl)) (pgs_cons (pg_name (i := 5) sc_lines_ahead.nd rfl (.inl rfl)) pgs_nil)))) (fun _ _ _ _ _ => pts_nil) (fun _ _ _ _ _ => (pe_ix (r := rIxT K) ix_tup (pv 4) pe_int (fun _ _ => rfl))))
        (pss_cons
        (ps_set (i := 6) sc_lines_ahead.nd rfl (Or.inl rfl) (pe_lst (pa_cons (pe_tup (pa_cons (pv 1) pa_nil)) pa_nil)))
        (pss_cons
        (ps_for PassesOwn.never rfl (pi_range2 (by rfl) T.z_range (pa_cons (pe_op op_add (pv 1) pe_int) (pa_cons (pv 0) pa_nil))) (pg_name (i := 7) sc_lines_ahead.nd rfl (.inr rfl))
        (pss_one
          (ps_if (pt_cmpR op_notIn_seq (pv 7) (pv 3) (by rfl))
          (pss_one
            (ps_set (i := 6) sc_lines_ahead.nd rfl (Or.inl rfl) (pe_op op_cat (pv 6) (pe_lc (own := [("row", 4)]) rfl sc_lines_ahead.nd (pi_list (pv 6)) (blkOk_by (own := [("row", 4)]) (N := ["many", "unknown", "flat", "heads", "row", "bit", "rows", "other"]) (sc := defScope s_lines_ahead) (by decide +kernel)) (fun _ _ _ _ _ => (pg_name (i := 4) sc_lines_ahead.nd rfl (.inl rfl))) (fun _ _ _ _ _ => pts_nil) (fun _ _ _ _ _ => (pe_op (r := rCatT K) op_catT (pv 4) (pe_tup (pa_cons (pv 7) pa_nil))))))))
          pss_nil)))
        (pss_one
        (ps_ret (pe_lc2 (own := [("row", 4), ("bit", 5)]) (vs1 := [5]) (wi1 := (iTup K (tTup (tCons (tC (V.int 0)) (tCons (tC (V.int 1)) tNil))))) rfl sc_lines_ahead.nd (pi_list (pv 6)) (blkOk_by (own := [("row", 4), ("bit", 5)]) (N := ["many", "unknown", "flat", "heads", "row", "bit", "rows", "other"]) (sc := defScope s_lines_ahead) (by decide +kernel)) (by decide) (fun _ _ _ _ _ => (pg_name (i := 4) sc_lines_ahead.nd rfl (.inl rfl))) (fun _ _ _ _ _ => pts_nil) (fun _ _ _ _ _ => (pi_tup (pe_tup (pa_cons pe_int (pa_cons pe_int pa_nil))))) (fun _ _ _ _ _ => (pg_name (i := 5) sc_lines_ahead.nd rfl (.inl rfl))) (fun _ _ _ _ _ => pts_nil) (fun _ _ _ _ _ => (pe_tup (pa_cons (pv 4) (pa_cons (pv 5) pa_nil)))))))))), ?_⟩
    have lP := Paired.len hP
    refine ⟨_, rfl, t, rfl, ⟨us, ht⟩, fun D hD => ?_⟩
    refine lc_tup (K := K) (a := t) (xs := us) (fun i H' => H' D = some (.lst (iv (headsF (fl.take i)))) ∧ Same G H') ⟨upd_same, same_new hD⟩ (fun i H' _ h => sqT_same h.2 ht) ?_ ?_
    · rintro i x H' hi ⟨eD, s1⟩
      obtain ⟨l, hl, hx⟩ := Paired.get hP hi
      obtain ⟨il, ie⟩ := List.getElem?_eq_some_iff.mp hl
      obtain ⟨tv, r, rfl, htv, ⟨pr, rfl, hpr⟩⟩ := hx.same s1
      obtain ⟨o1, o2⟩ := ok l (List.mem_of_getElem? hl)
      obtain ⟨tl, et⟩ := low_cons (hd0_spec (p63 (by omega) o1) o2)
      have at0 : atI (iv (bts l.1)) 0 = some (.int (hd0 l.1 : Int)) := by
        rw [et]
        exact atI_nat (j := 0) rfl
      refine ⟨tv, _, rfl, htv, rfl, .ref pr, _, rfl, _, [], rfl, rfl, rfl, _, rfl, pr, _, 0, _, rfl, rfl, hpr, at0, _, eD, ?_, ?_, same_mut s1 hD⟩
      · rw [iv_len]
        unfold headsF
        rw [List.length_map, List.length_take]
        exact small1000 (by omega)
      · rw [upd_same, List.take_succ_eq_append_getElem il, ie]
        unfold headsF iv
        rw [List.map_append, List.map_append]
        rfl
    rintro H1 ⟨eD, s1⟩
    rw [lP, List.take_length] at eD
    refine ⟨_, rfl, (by show 1 ≤ sizeLine; decide), fun p1 n1 => ⟨(by show 1 ≤ sizeLine; decide), fun l1 nl1 => ?_⟩⟩
    have r1 := same_new (o := .tup [V.int (u : Int)]) n1
    have r2 := same_new (o := .lst [V.ref p1]) nl1
    have hp1 : SumV K (upd (upd H1 p1 (.tup [V.int (u : Int)])) l1 (.lst [V.ref p1])) (.ref p1) (2 ^ u) := ⟨p1, rfl, .inl (.inl (by rw [r2 _ _ upd_same, bts_pow (by omega)]; rfl))⟩
    have el1 := upd_same (H := upd H1 p1 (.tup [V.int (u : Int)])) (a := l1) (o := .lst [V.ref p1])
    have eD2 := (r1.trans r2) _ _ eD
    have s2 := s1.trans (r1.trans r2)
    generalize upd (upd H1 p1 (.tup [V.int (u : Int)])) l1 (.lst [V.ref p1]) = H2 at hp1 el1 eD2 s2 ⊢
    have e1 : ((n : Int) - ((u : Int) + 1)).toNat = n - 1 - u := by omega
    refine ⟨_, rfl, _, _, rfl, rfl, _, rfl, _, _, rfl, ⟨by omega, by omega, by omega, by omega⟩, ?_⟩
    rw [e1]
    refine for_range (lo := (u : Int) + 1) (n := n - 1 - u) (fun i σ H => ∃ l zs y7, σ = [some (.int (n : Int)), some (.int (u : Int)), some (.ref t), some (.ref D), none, none, some (.ref l), y7] ∧ Same G H ∧ H D = some (.lst (iv (headsF fl))) ∧ H l = some (.lst zs) ∧ Paired (SumV K H) zs (rowsL u (headsF fl) i))
      ⟨l1, [.ref p1], _, rfl, s2, eD2, el1, .cons hp1 .nil⟩ ?_ ?_
    · rintro i σ H hi ⟨l, zs, y7, rfl, s3, eD3, el, hz⟩
      have lz := Paired.len hz
      have rl := rowsL_len u (headsF fl) i
      have p8 : 2 ^ i ≤ 2 ^ 4 := Nat.pow_le_pow_right (by decide) (by omega)
      have eo : (u : Int) + 1 + (i : Int) = ((u + 1 + i : Nat) : Int) := by omega
      rw [eo]
      refine ⟨_, rfl, _, rfl, D, _, rfl, .inl (.inl (.inl eD3)), rfl, flat_iv _, _, rfl, ?_⟩
      show if (!inV (.int ((u + 1 + i : Nat) : Int)) (iv (headsF fl))) = true then _ else _
      rw [inV_iv]
      by_cases c : u + 1 + i ∈ headsF fl
      · rw [decide_eq_true c]
        refine iteF ⟨l, zs, _, rfl, s3, eD3, el, ?_⟩
        unfold rowsL
        rw [if_pos c]
        exact hz
      · rw [decide_eq_false c]
        refine iteT ⟨_, rfl, _, rfl, l, rfl, ⟨zs, .inl (.inl el)⟩, fun D2 hD2 => ?_⟩
        refine lc_list (K := K) (a := l) (xs := zs) (fun j H' => ∃ ws, H' D2 = some (.lst ws) ∧ Same H H' ∧ Paired (SumV K H') ws (((rowsL u (headsF fl) i).take j).map (· ||| 2 ^ (u + 1 + i)))) ⟨[], upd_same, same_new hD2, .nil⟩ (fun j H' _ ⟨_, _, s, _⟩ => .inl (.inl (s _ _ el))) ?_ ?_
        · rintro j x H' hj ⟨ws, eW, s4, hw⟩
          obtain ⟨m, hm, hx⟩ := Paired.get hz hj
          obtain ⟨ml, me⟩ := List.getElem?_eq_some_iff.mp hm
          obtain ⟨pm, rfl, hpm⟩ := hx.same s4
          have mm := (rowsL_mem i).mp (List.mem_of_getElem? hm)
          have bl : ∀ v, m.testBit v = true → v < u + 1 + i := fun v hv => by
            rcases mm.2 v hv with z | z <;> omega
          have lw := Paired.len hw
          rw [List.length_map, List.length_take] at lw
          refine ⟨rfl, _, rfl, _, rfl, (by show 1 ≤ sizeLine; decide), fun q nq => ?_⟩
          have rq := same_new (o := .tup [V.int ((u + 1 + i : Nat) : Int)]) nq
          refine ⟨pm, q, _, [V.int ((u + 1 + i : Nat) : Int)], rfl, rfl, sqT_same rq hpm, .inl (.inl upd_same), ?_, ?_, (fun z => by cases z), fun _ p np => ?_⟩
          · intro z
            have : u ∈ bts m := mem_bts.mpr ⟨by omega, mm.1⟩
            have e := List.map_eq_nil_iff.mp z
            rw [e] at this
            cases this
          · rw [iv_len]
            have := bts_len m
            exact Nat.le_of_lt (small1000 (by show (bts m).length + 1 ≤ 1000; omega))
          have rp := rq.trans (same_new (o := .tup (iv (bts m) ++ [V.int ((u + 1 + i : Nat) : Int)])) np)
          have hp : SumV K (upd (upd H' q (.tup [V.int ((u + 1 + i : Nat) : Int)])) p (.tup (iv (bts m) ++ [V.int ((u + 1 + i : Nat) : Int)]))) (.ref p) (m ||| 2 ^ (u + 1 + i)) := ⟨p, rfl, .inl (.inl (by
            rw [upd_same, bts_put bl (by omega)]
            unfold iv
            rw [List.map_append]
            rfl))⟩
          have eW2 := rp _ _ eW
          generalize upd (upd H' q (.tup [V.int ((u + 1 + i : Nat) : Int)])) p (.tup (iv (bts m) ++ [V.int ((u + 1 + i : Nat) : Int)])) = H3 at rp hp eW2 ⊢
          refine ⟨ws, eW2, small1000 (by omega), ws ++ [.ref p], upd_same, same_mut (s4.trans rp) hD2, ?_⟩
          rw [List.take_succ_eq_append_getElem ml, me, List.map_append]
          exact PySem.Paired.snoc (Paired.mono2 (fun _ _ h => SumV.but eW2 But.at_ (SumV.same rp h)) hw) (SumV.but eW2 But.at_ hp)
        rintro H3 ⟨ws, eW, s4, hw⟩
        rw [lz, List.take_length] at hw
        have lw := Paired.len hw
        rw [List.length_map] at lw
        refine ⟨l, D2, zs, ws, rfl, rfl, s4 _ _ el, eW, ?_, fun p np => ?_⟩
        · show zs.length + ws.length ≤ sizeLine
          exact Nat.le_of_lt (small1000 (by omega))
        have rp := same_new (o := .lst (zs ++ ws)) np
        refine ⟨p, zs ++ ws, _, rfl, (s3.trans s4).trans rp, rp _ _ (s4 _ _ eD3), upd_same, ?_⟩
        unfold rowsL
        rw [if_neg c]
        exact paired_append (Paired.mono2 (fun _ _ h => SumV.same (s4.trans rp) h) hz) (Paired.mono2 (fun _ _ h => SumV.same rp h) hw)
    · rintro σ H ⟨l, zs, y7, rfl, s3, eD3, el, hz⟩
      have lz := Paired.len hz
      have rl := rowsL_len u (headsF fl) (n - 1 - u)
      have p8 : 2 ^ (n - 1 - u) ≤ 2 ^ 3 := Nat.pow_le_pow_right (by decide) (by omega)
      have two : ∀ rs : List Nat, (rs.flatMap fun m => [(m, 0), (m, 1)]).length = 2 * rs.length := fun rs => two_len _ _ rs
      refine ⟨_, rfl, l, rfl, ⟨zs, .inl (.inl el)⟩, fun D2 hD2 => ?_⟩
      refine lc2_list (K := K) (a := l) (xs := zs) (fun j H' => ∃ ws, H' D2 = some (.lst ws) ∧ Same H H' ∧ Paired (LineV K H') ws (((rowsL u (headsF fl) (n - 1 - u)).take j).flatMap fun m => [(m, 0), (m, 1)]))
        ⟨[], upd_same, same_new hD2, .nil⟩ (fun j H' _ ⟨_, _, s, _⟩ => .inl (.inl (s _ _ el))) ?_ ?_
      · rintro j x H' hj ⟨ws, eW, s4, hw⟩
        obtain ⟨m, hm, hx⟩ := Paired.get hz hj
        obtain ⟨ml, me⟩ := List.getElem?_eq_some_iff.mp hm
        have hxs := hx.same s4
        refine ⟨rfl, (by show 2 ≤ sizeLine; decide), fun q hq => ⟨q, rfl, ⟨_, .inl (.inl upd_same)⟩, ?_⟩⟩
        have sq := same_new (o := .tup [V.int 0, V.int 1]) hq
        have eq1 := upd_same (H := H') (a := q) (o := .tup [V.int 0, V.int 1])
        have hw1 := lines_same sq hw
        have eWq := sq _ _ eW
        have hxq := hxs.same sq
        have s5 := s4.trans sq
        generalize upd H' q (.tup [V.int 0, V.int 1]) = Hq at sq eq1 hw1 eWq hxq s5 ⊢
        refine lc2_tup (K := K) (a := q) (xs := [V.int 0, V.int 1]) (fun k H4 => ∃ ws, H4 D2 = some (.lst ws) ∧ Same H H4 ∧ H4 q = some (.tup [V.int 0, V.int 1]) ∧ Paired (LineV K H4) ws ((((rowsL u (headsF fl) (n - 1 - u)).take j).flatMap fun m => [(m, 0), (m, 1)]) ++ [(m, 0), (m, 1)].take k))
          ⟨ws, eWq, s5, eq1, by rw [List.take_zero, List.append_nil]; exact hw1⟩ (fun j H _ ⟨_, _, _, e, _⟩ => .inl (.inl e)) ?_ ?_
        · rintro k y H4 hk ⟨ws, eW4, s6, eq4, hw4⟩
          obtain ⟨b, rfl, hb⟩ : ∃ b : Nat, y = .int (b : Int) ∧ [(m, 0), (m, 1)][k]? = some (m, b) := by
            rcases k with _ | _ | k
            · exact ⟨0, (Option.some.inj hk).symm, rfl⟩
            · exact ⟨1, (Option.some.inj hk).symm, rfl⟩
            · cases hk
          have lw := Paired.len hw4
          rw [List.length_append, two, List.length_take, List.length_take] at lw
          have l2 : [(m, 0), (m, 1)].length = 2 := rfl
          refine ⟨rfl, _, rfl, _, rfl, (by show 2 ≤ sizeLine; decide), fun q5 nq5 => ?_⟩
          have r5 := same_new (o := .tup [x, V.int (b : Int)]) nq5
          have eW5 := r5 _ _ eW4
          have hl : LineV K (upd H4 q5 (.tup [x, V.int (b : Int)])) (.ref q5) (m, b) := ⟨q5, x, rfl, .inl (.inl upd_same), (hx.same s6).same r5⟩
          have neq : q ≠ D2 := fun z => by
            rw [z, eW4] at eq4
            cases eq4
          refine ⟨ws, eW5, small1000 (by omega), ws ++ [.ref q5], upd_same, same_mut (s6.trans r5) hD2, ?_, ?_⟩
          · rw [upd_ne neq]
            exact r5 _ _ eq4
          rw [List.take_succ_eq_append_getElem (List.getElem?_eq_some_iff.mp hb).1, (List.getElem?_eq_some_iff.mp hb).2, ← List.append_assoc]
          exact PySem.Paired.snoc (lines_but eW5 But.at_ (lines_same r5 hw4)) (LineV.but eW5 But.at_ hl)
        · rintro H4 ⟨ws, eW4, s6, _, hw4⟩
          refine ⟨ws, eW4, s6, ?_⟩
          rw [List.take_succ_eq_append_getElem ml, me, List.flatMap_append]
          exact hw4
      · rintro H4 ⟨ws, eW, s4, hw⟩
        rw [lz, List.take_length] at hw
        exact kk H4 D2 ws (s3.trans s4) (same_free s3 hD2) eW hw
end
end Es
set_option Elab.async false
set_option linter.all false
set_option maxRecDepth 100000
set_option maxHeartbeats 4000000
namespace Es
open PySem PySem.Spec PyProof.Rows L2
section
variable {P : Program} {w : World} {K : PySem.W.Frag} {mg : Str → Option Value} {base : Heap}
theorem ok_all_flats {f : Addr} {fd : FuncData} (F : Fun K "all_flats" "all_flats" s_all_flats f fd) (T : Txt mg) (c_lines_ahead : CalleeOf P w K mg base 1 "_lines_ahead" ["many", "unknown", "flat"] (sp_lines_ahead K)) : FnG P w K mg base 2 f fd ["many"] (sp_all_flats K) := by
  refine okG F sc_all_flats (fun h => ?_) (fun cdv B out t0 G ys R E hr hg h => ?_)
  · obtain ⟨n, rfl, _⟩ := h
    rfl
  · obtain ⟨n, rfl, n4, kk⟩ := h
    refine ⟨_, (pss_cons
        (ps_if (pt_cmpR op_gt (pv 0) (pe_globI rfl T.g_MOST_UNKNOWNS_LISTED) (nomark _))
        (pss_one
          ps_no)
        pss_nil)
        (pss_cons
        (ps_set (i := 1) sc_all_flats.nd rfl (Or.inl rfl) (pe_lst (pa_cons (pe_tup pa_nil) pa_nil)))
        (pss_cons
        (ps_for PassesOwn.never rfl (pi_revR (by rfl) T.z_reversed (prg_1 (by rfl) T.z_range (pv 0))) (pg_name (i := 2) sc_all_flats.nd rfl (.inr rfl))
        (pss_one
          (ps_set (i := 1) sc_all_flats.nd rfl (Or.inl rfl) (pe_op op_cat (pv 1) (pe_lc2 (own := [("flat", 3), ("line", 4)]) (vs1 := [4]) (wi1 := (iList K (tCall (sp_lines_ahead K) [] E0 (tCons (tVar 0) (tCons (tVar 2) (tCons (tVar 3) tNil)))))) rfl sc_all_flats.nd (pi_list (pv 1)) (blkOk_by (own := [("flat", 3), ("line", 4)]) (N := ["many", "found", "unknown", "flat", "line"]) (sc := defScope s_all_flats) (by decide +kernel)) (by decide) (fun _ _ _ _ _ => (pg_name (i := 3) sc_all_flats.nd rfl (.inl rfl))) (fun _ _ _ _ _ => pts_nil) (fun _ _ _ _ _ => (pi_list (pe_callC c_lines_ahead (hr.mono (by decide)) hg (by rfl) (pa_cons (pv 0) (pa_cons (pv 2) (pa_cons (pv 3) pa_nil)))))) (fun _ _ _ _ _ => (pg_name (i := 4) sc_all_flats.nd rfl (.inl rfl))) (fun _ _ _ _ _ => pts_nil) (fun _ _ _ _ _ => (pe_op (r := rCatA K) op_catA (pe_tup (pa_cons (pv 4) pa_nil)) (pv 3))))))))
        (pss_one
        (ps_ret (pe_callB (cr_sortedDataG hr.units) (by rfl) T.z_sorted (by decide +kernel) (pa_cons (pv 1) pa_nil))))))), ?_⟩
    refine ⟨_, rfl, _, _, rfl, rfl, ⟨_, rfl, ?_⟩⟩
    rw [show decide ((4 : Int) < (n : Int)) = false from decide_eq_false (by omega)]
    refine iteF ⟨(by show 0 ≤ sizeLine; decide), fun p0 n0 => ⟨(by show 1 ≤ sizeLine; decide), fun l0 nl0 => ?_⟩⟩
    have r0 := same_new (o := .tup []) n0
    have r1 := same_new (o := .lst [V.ref p0]) nl0
    have hf0 : LinesV K (upd (upd G p0 (.tup [])) l0 (.lst [V.ref p0])) (.ref p0) [] := ⟨p0, [], rfl, .inl (.inl (r1 _ _ upd_same)), .nil⟩
    have el0 := upd_same (H := upd G p0 (.tup [])) (a := l0) (o := .lst [V.ref p0])
    have s0 := r0.trans r1
    have gl0 : G l0 = none := r0.free nl0
    generalize upd (upd G p0 (.tup [])) l0 (.lst [V.ref p0]) = H0 at hf0 el0 s0 ⊢
    have nn : ((n : Int) - 0).toNat = n := by omega
    refine ⟨_, rfl, n, rfl, by omega, by omega, by omega, by omega, ?_⟩
    rw [nn]
    refine for_rangeC (fun i σ H => ∃ l zs y2, σ = [some (.int (n : Int)), some (.ref l), y2, none, none] ∧ Same G H ∧ G l = none ∧ H l = some (.lst zs) ∧ Paired (LinesV K H) zs (FL n i)) ⟨l0, [.ref p0], _, rfl, s0, gl0, el0, .cons hf0 .nil⟩ ?_ ?_
    · rintro i σ H hi ⟨l, zs, y2, rfl, s1, gl, el, hz⟩
      have e5 : (0 + (n : Int) - 1 + (i : Int) * -1) = ((n - 1 - i : Nat) : Int) := by omega
      rw [e5]
      have lz := Paired.len hz
      have many := FL_many n n4 (i + 1) hi
      have many0 := FL_many n n4 i (by omega)
      have eF : FL n (i + 1) = FL n i ++ (FL n i).flatMap fun fl => (linesA n (n - 1 - i) (headsF fl)).map fun l => l :: fl := by rw [FL]
      have part : ∀ k, (((FL n i).take k).flatMap fun fl => (linesA n (n - 1 - i) (headsF fl)).map fun l => l :: fl).length ≤ 307 := fun k => by
        have a : (((FL n i).take k).flatMap fun fl => (linesA n (n - 1 - i) (headsF fl)).map fun l => l :: fl).length + (((FL n i).drop k).flatMap fun fl => (linesA n (n - 1 - i) (headsF fl)).map fun l => l :: fl).length = ((FL n i).flatMap fun fl => (linesA n (n - 1 - i) (headsF fl)).map fun l => l :: fl).length := by
          rw [← List.length_append, ← List.flatMap_append, List.take_append_drop]
        rw [eF, List.length_append] at many
        omega
      refine ⟨_, rfl, _, rfl, l, rfl, ⟨zs, .inl (.inl el)⟩, fun D2 hD2 => ?_⟩
      refine lc2_list (K := K) (a := l) (xs := zs) (fun j H' => ∃ ws, H' D2 = some (.lst ws) ∧ Same H H' ∧ Paired (LinesV K H') ws (((FL n i).take j).flatMap fun fl => (linesA n (n - 1 - i) (headsF fl)).map fun l => l :: fl))
        ⟨[], upd_same, same_new hD2, .nil⟩ (fun j H' _ ⟨_, _, s, _⟩ => .inl (.inl (s _ _ el))) ?_ ?_
      · rintro j x H' hj ⟨ws, eW, s4, hw⟩
        obtain ⟨fl, hf, hx⟩ := Paired.get hz hj
        obtain ⟨fl_l, fe⟩ := List.getElem?_eq_some_iff.mp hf
        have mf := List.mem_of_getElem? hf
        have W := ((FL_mem (by omega) i (by omega) fl).mp mf).1
        have lf := FL_len n i fl mf
        have hxs := hx.same s4
        refine ⟨rfl, _, rfl, _, rfl, _, rfl, n, n - 1 - i, x, fl, rfl, hxs, n4, by omega, (fun l h => ⟨(W.ok l h).1, (W.ok l h).2.1⟩), by omega, fun H5 p us s5 np ep PL => ⟨p, rfl, ⟨us, .inl (.inl ep)⟩, ?_⟩⟩
        have eW5 := s5 _ _ eW
        have s45 := s4.trans s5
        have npD : p ≠ D2 := fun z => by
          rw [z] at np
          rw [np] at eW
          cases eW
        have lu := Paired.len PL
        refine lc2_lst (K := K) (a := p) (xs := us) (fun k H6 => ∃ ws, H6 D2 = some (.lst ws) ∧ Same H H6 ∧ H6 p = some (.lst us) ∧ Paired (LineV K H6) us (linesA n (n - 1 - i) (headsF fl)) ∧ Paired (LinesV K H6) ws ((((FL n i).take j).flatMap fun fl => (linesA n (n - 1 - i) (headsF fl)).map fun l => l :: fl) ++ ((linesA n (n - 1 - i) (headsF fl)).take k).map fun l => l :: fl))
          ⟨ws, eW5, s45, ep, PL, by rw [List.take_zero, List.map_nil, List.append_nil]; exact Paired.mono2 (fun _ _ h => LinesV.same s5 h) hw⟩ (fun k H6 ⟨_, _, _, e, _⟩ => .inl (.inl e)) ?_ ?_
        · rintro k y H6 hk ⟨ws, eW6, s6, ep6, PL6, hw6⟩
          obtain ⟨ln, hln, hy⟩ := Paired.get PL6 hk
          obtain ⟨lnl, lne⟩ := List.getElem?_eq_some_iff.mp hln
          have lw := Paired.len hw6
          have whole : ws.length ≤ 307 := by
            have a := part (j + 1)
            rw [List.take_succ_eq_append_getElem fl_l, fe, List.flatMap_append, List.length_append] at a
            rw [lw, List.length_append, List.length_map, List.length_take]
            rw [show ([fl].flatMap fun fl => (linesA n (n - 1 - i) (headsF fl)).map fun l => l :: fl) = (linesA n (n - 1 - i) (headsF fl)).map fun l => l :: fl from by rw [List.flatMap_cons, List.flatMap_nil, List.append_nil], List.length_map] at a
            omega
          refine ⟨rfl, _, rfl, (by show 1 ≤ sizeLine; decide), fun q nq => ⟨_, rfl, ?_⟩⟩
          have rq := same_new (o := .tup [y]) nq
          obtain ⟨tf, fu, rfl, htf, hPf⟩ := hx.same (s6.trans rq)
          have lfu := Paired.len hPf
          refine cat_seq (.inl (.inl upd_same)) htf (Nat.le_of_lt (small1000 (by show 1 + fu.length ≤ 1000; omega))) fun H7 z s7 hz7 => ?_
          have s67 := rq.trans s7
          have eW7 := s67 _ _ eW6
          have own : LinesV K H7 (.ref z) (ln :: fl) := ⟨z, _, rfl, hz7, .cons (hy.same s67) (lines_same s7 hPf)⟩
          refine ⟨ws, eW7, small1000 (by omega), ws ++ [.ref z], upd_same, same_mut (s6.trans s67) hD2, ?_, ?_, ?_⟩
          · rw [upd_ne npD]
            exact s67 _ _ ep6
          · exact lines_but eW7 But.at_ (lines_same s67 PL6)
          · rw [List.take_succ_eq_append_getElem lnl, lne, List.map_append, ← List.append_assoc]
            exact PySem.Paired.snoc (Paired.mono2 (fun _ _ h => LinesV.but eW7 But.at_ (LinesV.same s67 h)) hw6) (LinesV.but eW7 But.at_ own)
        · rintro H6 ⟨ws, eW6, s6, ep6, PL6, hw6⟩
          refine ⟨ws, eW6, s6, ?_⟩
          rw [lu, List.take_length] at hw6
          rw [List.take_succ_eq_append_getElem fl_l, fe, List.flatMap_append, List.flatMap_cons, List.flatMap_nil, List.append_nil]
          exact hw6
      · rintro H3 ⟨ws, eW, s4, hw⟩
        rw [lz, List.take_length] at hw
        have lw := Paired.len hw
        rw [eF, List.length_append] at many
        refine ⟨l, D2, zs, ws, rfl, rfl, s4 _ _ el, eW, ?_, fun p np => ?_⟩
        · rw [lz, lw]
          exact Nat.le_of_lt (small1000 (by omega))
        have rp := same_new (o := .lst (zs ++ ws)) np
        refine ⟨p, zs ++ ws, _, rfl, (s1.trans s4).trans rp, same_free (s1.trans s4) np, upd_same, ?_⟩
        rw [eF]
        exact paired_append (Paired.mono2 (fun _ _ h => LinesV.same (s4.trans rp) h) hz) (Paired.mono2 (fun _ _ h => LinesV.same rp h) hw)
    · rintro σ H ⟨l, zs, y2, rfl, s1, gl, el, hz⟩
      obtain ⟨cs, rfl, ec, hc⟩ := paired_pairs hz
      have dd : ∀ b ∈ cs.map (fun c => ((c.1, flD c.2) : V × PyData)), Dp K H b.1 b.2 := fun b hb => by
        obtain ⟨c, hc', rfl⟩ := List.mem_map.mp hb
        exact dp_linesV (hc c hc')
      have e2 : (cs.map (fun c => ((c.1, flD c.2) : V × PyData))).map (·.2) = (FL n n).map flD := by
        rw [ec, List.map_map, List.map_map]
        rfl
      refine ⟨_, rfl, l, cs.map (fun c => ((c.1, flD c.2) : V × PyData)), rfl, .inl (.inl ?_), dd, ?_, ?_, ?_, fun p np => ?_⟩
      · rw [List.map_map]
        exact el
      · rw [e2]
        exact alike_all (f := fun x => x)
      · rw [e2]
        exact sort_ok (FL_head n n)
      · intro b hb
        obtain ⟨c, _, rfl⟩ := List.mem_map.mp hb
        exact flD_depth _
      have rp := same_new (o := .lst (((cs.map fun c => ((c.1, flD c.2) : V × PyData)).mergeSort (PySem.W.dataLe false (·.2))).map (·.1))) np
      refine kk _ p _ (s1.trans rp) (same_free s1 np) upd_same fun H2 sH => ?_
      have es : ((cs.map fun c => ((c.1, flD c.2) : V × PyData)).mergeSort (PySem.W.dataLe false (·.2))).map (·.2) = sortedD n := sort_same (by rw [e2]) (by rw [e2]; exact alike_all (f := fun x => x))
      rw [← es]
      refine dp_pairs fun b hb => ?_
      have mb := (List.mergeSort_perm _ _).mem_iff.mp hb
      obtain ⟨c, hc', rfl⟩ := List.mem_map.mp mb
      exact dp_linesV (LinesV.same (rp.trans sH) (hc c hc'))
end
end Es
set_option Elab.async false
set_option linter.all false
set_option maxRecDepth 100000
set_option maxHeartbeats 4000000
namespace Es
open PySem PySem.Spec PyProof.Rows L2 LamX
theorem sc_law_heard : FnScope ["act", "e"] ["act"] (defScope (topS 41)) := ⟨rfl, rfl, rfl, by decide +kernel, rfl, by decide +kernel, by decide +kernel⟩
def HearE3 (CW CN CT : Addr) (Q : VK) : XK := fun cls d H => ToldBy CW "place" "wrong" Q cls d H ∨ ToldBy CN "line" "text" Q cls d H ∨ ToldBy CT "most" "many" Q cls d H
def THear (F : VK → XK) : (XK → Hp → VK → Prop) → Hp → VK → Prop := fun tl H Q => ∃ (E : XK) (Q0 : VK), (∀ {cls d G}, E cls d G → F Q cls d G) ∧ (∀ {v G}, Q0 v G → ∀ p, G p = none → Q (.ref p) (upd G p (.tup [.str "told", v]))) ∧ tl E H Q0
structure Hear3 (K : PySem.W.Frag) (mg : Str → Option Value) (CW CN CT : Addr) : Prop where
  w : HearC K mg "Wrong" "place" CW
  n : HearC K mg "NoText" "line" CN
  t : HearC K mg "TooMany" "most" CT
  nw : PySem.W.exmOne K (.ref CN) (.ref CW) = some false
  tw : PySem.W.exmOne K (.ref CT) (.ref CW) = some false
  tn : PySem.W.exmOne K (.ref CT) (.ref CN) = some false
theorem gives_heard {X : Cx} {g CW CN CT : Addr} {cdv : Value} {q : Str} (T : Hear3 X.K X.mg CW CN CT) : Gives X ["act", "e"] "_law_heard" (defScope (topS 41)) g cdv (defBody (topS 41)) "act" q (THear (HearE3 CW CN CT)) := by
  intro f c s H Q tl act hc want
  refine ⟨_, pss_one (ps_tryAll (tb := fun W => tRet (tTup (tCons (tC (.str "told")) (tCons (fun τ G Q => ∃ Q0 : VK, (τ[0]? = some (some (.ref f)) ∧ G c = some (CodeO c q) ∧ ∃ E : XK, (∀ {cls d G2}, E cls d G2 → W cls d τ G2) ∧ tl E G Q0) ∧ ∀ v H1, Q0 v H1 → Q v H1) tNil))))
    (Wout := fun _ _ _ _ => False) rfl rfl sc_law_heard.nd takes0 (fun tk _ => pss_one (ps_ret (pe_tup (pa_cons pe_str (pa_cons (PE.wide (act tk)) pa_nil)))))
    (.named (c := .ref CW) (i := 1) ⟨rfl, by decide, .inl T.w.gC⟩ rfl rfl (fun hz hf => suiteField (i := 1) (n := "place") T.w hz hf rfl (.inl rfl))
      (.named (c := .ref CN) (i := 1) ⟨rfl, by decide, .inl T.n.gC⟩ rfl rfl (fun hz hf => suiteField (i := 1) (n := "line") T.n hz hf rfl (.inl rfl))
        (.named (c := .ref CT) (i := 1) ⟨rfl, by decide, .inl T.t.gC⟩ rfl rfl (fun hz hf => suiteField (i := 1) (n := "most") T.t hz hf rfl (.inl rfl)) .nil)))), ?_⟩
  obtain ⟨E, Q0, hE, hQ, ht⟩ := want
  refine ⟨Q0, ⟨rfl, hc, E, fun {cls d G2} he => ?_, ht⟩, fun v H1 hv => ⟨(by show 2 ≤ sizeLine; decide), fun p np => hQ hv p np⟩⟩
  rcases hE he with z | z | z
  · have e := z.1
    subst e
    exact ⟨true, T.w.me, fun _ a _ => suiteField_ok z rfl rfl, fun h => by cases h⟩
  · have e := z.1
    subst e
    exact ⟨false, T.nw, (fun h => by cases h), fun _ => ⟨true, T.n.me, fun _ a _ => suiteField_ok z rfl rfl, fun h => by cases h⟩⟩
  · have e := z.1
    subst e
    exact ⟨false, T.tw, (fun h => by cases h), fun _ => ⟨false, T.tn, (fun h => by cases h), fun _ => ⟨true, T.t.me, fun _ a _ => suiteField_ok z rfl rfl, fun h => by cases h⟩⟩⟩
end Es
set_option Elab.async false
set_option linter.all false
set_option maxRecDepth 100000
set_option maxHeartbeats 4000000
namespace Es
open PySem PySem.Spec PyProof.Rows L2 LamX
theorem pss_no {X : Cx} {sts : List Stmt} : PSs X sts (fun _ _ _ => False) := ⟨fun _ _ _ _ _ _ h => h.elim⟩
abbrev s_iniT : Stmt := inClass (topS 3) 0
theorem sc_iniT : FnScope ["self", "most"] ["self", "most"] (defScope s_iniT) := ⟨rfl, rfl, rfl, by decide +kernel, rfl, by decide +kernel, by decide +kernel⟩
def sp_all5 (K : PySem.W.Frag) (CT : Addr) : Sp := fun vs H Q E => vs = [.int 5] ∧ ∀ d, H d = none → E (.ref CT) (some d) (upd H d (.xd [(("most" : Str), .int 4)]))
section
variable {P : Program} {w : World} {K : PySem.W.Frag} {mg : Str → Option Value} {base : Heap}
theorem ok_all5 {f fT CT : Addr} {fd fdT : FuncData} (F : Fun K "all_flats" "all_flats" s_all_flats f fd) (T : Txt mg) (TE : ErrC K mg "TooMany" "most" CT fT) (FI : Fun K "__init__" "TooMany.__init__" s_iniT fT fdT) (bI : Binds K fdT ["self", "most"] []) :
    FnR P w K mg base 3 f fd ["many"] (sp_all5 K CT) := by
  refine okR F sc_all_flats (fun h => ?_) (fun cdv B out t0 G ys R E hr hg tk h => ?_)
  · obtain ⟨rfl, _⟩ := h
    rfl
  · refine ⟨_, (pss_cons
      (ps_if (pt_cmpR op_gt (pv 0) (pe_globI rfl T.g_MOST_UNKNOWNS_LISTED) (nomark _))
      (pss_one (ps_raiseErr rfl TE (ok_err FI sc_iniT rfl (.inl rfl) (.inl rfl) (by decide) (by decide)) bI hr tk (by rfl) (pa_cons (pe_globI rfl T.g_MOST_UNKNOWNS_LISTED) pa_nil)))
      pss_nil)
      pss_no), ?_⟩
    obtain ⟨rfl, k⟩ := h
    refine ⟨_, rfl, _, _, rfl, rfl, ⟨_, rfl, ?_⟩⟩
    rw [show decide ((4 : Int) < (5 : Int)) = true from rfl]
    refine iteT ?_
    exact ⟨.int 4, rfl, fun d nd => k d nd⟩
def sp_law10 (lp : Addr) (K : PySem.W.Frag) : Sp := fun vs H Q _ => ∃ (a : Addr) (ns : List Int), vs = [.ref a] ∧ SqL K H a (ns.map V.int) ∧ ns.length ≤ 63 ∧ H lp = some (.tbl #[]) ∧ ∀ H', Q (.bl true) H'
theorem sqT_ext {H H2 : Hp} {a : Addr} {xs : List V} (s : ExtN H H2) (h : SqT K H a xs) : SqT K H2 a xs := by
  rcases h with (h | ⟨o, h⟩) | h
  · exact .inl (.inl (s _ _ h (fun ps z => by cases z)))
  · exact .inl (.inr ⟨o, s _ _ h (fun ps z => by cases z)⟩)
  · exact .inr h
theorem ok_law {f fh CT CW CN lc lp : Addr} {oc kV doc pm ct : Value} {od an : Option Addr} {osl : Array (Option Value)} {och kVh doch pmh cdh cth : Value} {odh anh : Option Addr} {oslh : Array (Option Value)}
    (lk : K.lookup f = some ⟨oc, od, .func (PySem.W.fnOf "law" "law" (defArgs s_law) (defBody s_law) (defScope s_law) .none kV doc pm an (.ref lc) ct), osl⟩) (cod : PySem.W.codeIn K (.ref lc) "law" = true) (T : Txt mg)
    (lkh : K.lookup fh = some ⟨och, odh, .func (PySem.W.fnOf "_law_heard" "_law_heard" (defArgs (topS 41)) (defBody (topS 41)) (defScope (topS 41)) .none kVh doch pmh anh cdh cth), oslh⟩) (codh : PySem.W.codeIn K cdh "_law_heard" = true) (gh : mg "_law_heard" = some (.ref fh)) (kh : PySem.W.keepIn K (.ref fh) = true)
    (bh : Binds K (PySem.W.fnOf "_law_heard" "_law_heard" (defArgs (topS 41)) (defBody (topS 41)) (defScope (topS 41)) .none kVh doch pmh anh cdh cth) ["act"] [])
    (TH : Hear3 K mg CW CN CT) (TB : TabB base mg lc lp) (cM : CalleeR P w K mg base 3 "all_flats" ["many"] (sp_all5 K CT)) (c_law_bag : CalleeOf P w K mg base 1 "_law_bag" ["script"] (sp_law_bag K)) (c_law_is_least_right : CalleeOf P w K mg base 7 "_law_is_least_right" ["bag", "many"] (sp_law_is_least_right K)) (c_law_some : CalleeOf P w K mg base 2 "_law_some" ["bag", "things"] (sp_law_some K)) (c_law_alike : CalleeOf P w K mg base 1 "_law_alike" ["found", "due"] (sp_law_alike K)) (c_law_all_flats : CalleeOf P w K mg base 4 "_law_all_flats" ["many"] (sp_law_all_flats K)) (c_all_flats : CalleeOf P w K mg base 2 "all_flats" ["many"] (sp_all_flats K)) :
    FnG P w K mg base 8 f (PySem.W.fnOf "law" "law" (defArgs s_law) (defBody s_law) (defScope s_law) .none kV doc pm an (.ref lc) ct) ["script"] (sp_law10 lp K) := by
  refine fng_of lk cod sc_law (fun h => ?_) (fun B out t0 G ys R E hr hg h => ?_)
  · obtain ⟨a, ns, rfl, _⟩ := h
    rfl
  · suffices hh : ∃ r, PSs (cxOf CX0 P w K mg base ["script", "bag", "turn", "many", "due", "again", "told"] "law" (defScope s_law) f (.ref lc) B out t0 G E).nox (defBody s_law) r ∧ r { nx := fun _ G' => R .non G', rt := R } (L2.start ["script", "bag", "turn", "many", "due", "again", "told"] ys) G from by
      obtain ⟨r, h1, h2⟩ := hh
      exact ⟨r, h1.nox, h2⟩
    obtain ⟨a, ns, rfl, hS, hl, hT, k⟩ := h
    refine ⟨_, (pss_cons
        (ps_set (i := 1) sc_law.nd rfl (Or.inl rfl) (pe_callC c_law_bag (hr.mono (by decide)) hg (by rfl) (pa_cons (pv 0) pa_nil)))
        (pss_cons
        (ps_for PassesOwn.never rfl (pi_range1 (by rfl) T.z_range (pa_cons pe_int pa_nil)) (pg_name (i := 2) sc_law.nd rfl (.inl rfl))
        (pss_one
          (ps_if (pt_not (pt_val (pe_callC c_law_is_least_right (hr.mono (by decide)) hg (by rfl) (pa_cons (pv 1) (pa_cons (pe_callC c_law_some (hr.mono (by decide)) hg (by rfl) (pa_cons (pv 1) (pa_cons (pe_lst (pa_cons pe_int (pa_cons pe_int (pa_cons pe_int (pa_cons pe_int (pa_cons pe_int (pa_cons pe_int pa_nil))))))) pa_nil))) pa_nil)))))
          (pss_one
            (ps_ret pe_bl))
          pss_nil)))
        (pss_cons
        (ps_set (i := 3) sc_law.nd rfl (Or.inr rfl) (pe_callC c_law_some (hr.mono (by decide)) hg (by rfl) (pa_cons (pv 1) (pa_cons (pe_lst (pa_cons pe_int (pa_cons pe_int (pa_cons pe_int (pa_cons pe_int (pa_cons pe_int (pa_cons pe_int pa_nil))))))) pa_nil))))
        (pss_cons
        (ps_if (pt_cmpR op_eq (pv 3) pe_int (nomark _))
        (pss_one
          (ps_ret (pe_callC c_law_alike (hr.mono (by decide)) hg (by rfl) (pa_cons (pe_lamG (T := [(lp, _)]) (TT := THear (HearE3 CW CN CT)) (t := fun E => tCallS (sp_all5 K CT) (fun _ => E) (tCons (tVar 3) tNil)) (k := 3) (by rfl) gh kh lkh codh bh sc_law_heard (gives_heard TH) rfl (.inl rfl) TB rfl List.mem_cons_self (fun p h _ => by rw [List.mem_singleton.mp h]) (hr.mono (by decide)) hg (lamS_by (sc := defScope s_law) (by decide +kernel)) rfl (fun _ _ _ _ _ => rfl)
            (fun A outer s H E f c r2 g2 => pe_callR (E := fun _ => E) cM r2 g2 (by rfl) (fun σ => passAt (takes_of rfl rfl rfl rfl) σ) (pa_cons (pe_var (i := 3) rfl (.inr (.inr rfl))) pa_nil))) (pa_cons (pe_tup (pa_cons pe_str (pa_cons pe_int pa_nil))) pa_nil)))))
        pss_nil)
        (pss_cons
        (ps_set (i := 4) sc_law.nd rfl (Or.inl rfl) (pe_callC c_law_all_flats (hr.mono (by decide)) hg (by rfl) (pa_cons (pv 3) pa_nil)))
        (pss_cons
        (ps_for PassesOwn.never rfl (pi_range1 (by rfl) T.z_range (pa_cons pe_int pa_nil)) (pg_name (i := 5) sc_law.nd rfl (.inl rfl))
        (pss_cons
          (ps_set (i := 6) sc_law.nd rfl (Or.inl rfl) (pe_callC c_all_flats (hr.mono (by decide)) hg (by rfl) (pa_cons (pv 3) pa_nil)))
          (pss_cons
          (ps_if (pt_not (pt_val (pe_callC c_law_alike (hr.mono (by decide)) hg (by rfl) (pa_cons (pv 6) (pa_cons (pv 4) pa_nil)))))
          (pss_one
            (ps_ret pe_bl))
          pss_nil)
          (pss_one
          (ps_expr (pe_bm PySem.F.plainAttrs_list PySem.F.slot_list_append PySem.F.type_list_append mt_append (pv 6) (pa_cons pe_non pa_nil)))))))
        (pss_one
        (ps_ret pe_bl)))))))), ?_⟩
    refine ⟨_, rfl, a, ns, rfl, hS, hl, fun H0 b c s0 nb nc hB0 => ?_⟩
    have lb : lp ≠ b := ne_of_none hT nb
    have hT0 := s0 _ _ hT
    refine ⟨4, rfl, by decide, by decide, for_range (lo := 0) (n := 4) (fun i σ H => ∃ y2, σ = [some (.ref a), some (.ref b), y2, none, none, none, none] ∧ BagAt K H b c ∧ But b H0 H)
      ⟨_, rfl, hB0, But.refl _ _⟩ ?_ ?_⟩
    · rintro i σ H hi ⟨y2, rfl, hB, sH⟩
      refine ⟨_, rfl, _, rfl, (by show 6 ≤ sizeLine; decide), fun l nl => ?_⟩
      have sl := same_new (o := .lst [V.int 3, V.int 2, V.int 4, V.int 5, V.int 1, V.int 0]) nl
      refine ⟨b, c, l, _, rfl, hB.same sl, ne_bagK hB nl, .inl (.inl (.inl upd_same)), by show 0 < 6; decide, by show 6 < 1073741824; decide, fun H1 r v s1 B1 hv => ?_⟩
      obtain ⟨n, rfl, n5⟩ : ∃ n : Nat, v = .int (n : Int) ∧ n ≤ 5 := by
        rcases r with _ | _ | _ | _ | _ | _ | r
        · exact ⟨3, (Option.some.inj hv).symm, by decide⟩
        · exact ⟨2, (Option.some.inj hv).symm, by decide⟩
        · exact ⟨4, (Option.some.inj hv).symm, by decide⟩
        · exact ⟨5, (Option.some.inj hv).symm, by decide⟩
        · exact ⟨1, (Option.some.inj hv).symm, by decide⟩
        · exact ⟨0, (Option.some.inj hv).symm, by decide⟩
        · cases hv
      refine ⟨b, c, n, rfl, B1, n5, fun H2 s2 B2 => ⟨_, rfl, iteF ⟨_, rfl, B2, ((sH.trans (But.same sl)).trans s1).trans s2⟩⟩⟩
    · rintro σ H ⟨y2, rfl, hB, sH⟩
      have hTH := sH _ _ lb hT0
      refine ⟨_, rfl, (by show 6 ≤ sizeLine; decide), fun l nl => ?_⟩
      have sl := same_new (o := .lst [V.int 2, V.int 1, V.int 3, V.int 0, V.int 4, V.int 5]) nl
      refine ⟨b, c, l, _, rfl, hB.same sl, ne_bagK hB nl, .inl (.inl (.inl upd_same)), by show 0 < 6; decide, by show 6 < 1073741824; decide, fun H1 r v s1 B1 hv => ?_⟩
      have hT1 := s1 _ _ lb (sl _ _ hTH)
      obtain ⟨n, rfl, n5⟩ : ∃ n : Nat, v = .int (n : Int) ∧ n ≤ 5 := by
        rcases r with _ | _ | _ | _ | _ | _ | r
        · exact ⟨2, (Option.some.inj hv).symm, by decide⟩
        · exact ⟨1, (Option.some.inj hv).symm, by decide⟩
        · exact ⟨3, (Option.some.inj hv).symm, by decide⟩
        · exact ⟨0, (Option.some.inj hv).symm, by decide⟩
        · exact ⟨4, (Option.some.inj hv).symm, by decide⟩
        · exact ⟨5, (Option.some.inj hv).symm, by decide⟩
        · cases hv
      clear hv
      by_cases c5 : n = 5
      · subst c5
        refine ⟨_, rfl, rfl, _, rfl, iteT ?_⟩
        refine ⟨fun z hz => ?_, fun H9 ext _ => ⟨ToldBy CT "most" "many" _, fun _ _ => False, fun z => .inr (.inr z), fun z => z.elim, _, rfl, rfl, fun d nd => ⟨rfl, d, _, .int 4, rfl, upd_same, rfl, fun p np => ⟨(by show 2 ≤ sizeLine; decide), fun p10 n10 => ?_⟩⟩⟩⟩
        · rw [List.mem_singleton.mp hz]
          exact TabS.nil hT1
        have d1 : Dp K (upd (upd (upd H9 d (.xd [(("most" : Str), .int 4)])) p (.tup [.str "many", .int 4])) p10 (.tup [.str "many", .int 4])) (.ref p) (.tuple [.str "many", .int 4]) := .tup (.inl (.inl (same_new n10 _ _ upd_same))) (.cons (.str _) (.cons (.int _) .nil))
        have d2 : Dp K (upd (upd (upd H9 d (.xd [(("most" : Str), .int 4)])) p (.tup [.str "many", .int 4])) p10 (.tup [.str "many", .int 4])) (.ref p10) (.tuple [.str "many", .int 4]) := .tup (.inl (.inl upd_same)) (.cons (.str _) (.cons (.int _) .nil))
        exact ⟨_, _, _, rfl, d1, d2, by decide +kernel, by decide +kernel, by decide +kernel, k _⟩
      · have n4 : n ≤ 4 := by omega
        have ef : decide (V.int (n : Int) = V.int 5) = false := decide_eq_false fun z => by
          injection z with z
          omega
        refine ⟨_, rfl, rfl, _, rfl, ?_⟩
        rw [ef]
        refine iteF ⟨_, rfl, n, rfl, n4, fun H2 p us s2 np ep D1 => ?_⟩
        obtain ⟨f1, f2, f3⟩ := sortedD_facts n4
        refine ⟨2, rfl, by decide, by decide, for_range (lo := 0) (n := 2) (fun i σ H => ∃ y5 y6, σ = [some (.ref a), some (.ref b), y2, some (.int (n : Int)), some (.ref p), y5, y6] ∧ Same H2 H) ⟨_, _, rfl, Same.refl _⟩ ?_ ?_⟩
        · rintro i σ H hi ⟨y5, y6, rfl, s3⟩
          refine ⟨_, rfl, n, rfl, n4, fun H3 q zs s4 nq eq D2 => ?_⟩
          have s34 := s3.trans s4
          refine ⟨_, rfl, _, rfl, .ref q, .ref p, .list (sortedD n), rfl, .lst (.inl (.inl eq)) (D2 _ (Same.refl _)), .lst (.inl (.inl (s34 _ _ ep))) (D1 _ s34), f1, f2, f3, _, rfl, iteF ?_⟩
          have lz : zs.length ≤ 307 := by
            have := dpAll_len (D2 _ (Same.refl _))
            rw [this]
            unfold sortedD
            rw [List.length_map, List.length_mergeSort]
            exact FL_many n n4 n (Nat.le_refl _)
          exact ⟨_, rfl, .inl ⟨rfl, _, .inl (.inl eq)⟩, q, zs, .non, rfl, rfl, eq, small1000 (by omega), _, _, rfl, same_mut s34 (same_free s3 nq)⟩
        · rintro σ H ⟨y5, y6, rfl, s3⟩
          exact k _
end
end Es
namespace Es
open PySem PySem.Spec PyProof.Rows L2 LamX
theorem all_mk {l : PySem.W.OpenLaw} {w : World} {K : PySem.W.Frag} {h : Heap} {mg : Str → Option Value} {fa lc lp CW CN CT S N f1 f2 f3 f4 f5 f6 f7 f8 f9 f10 f11 f12 f13 f14 f15 f16 f17 f18 f19 f20 f21 f22 f23 f24 f25 f26 f27 f28 f29 f30 f31 f32 f33 f34 f35 f36 f37 : Addr} (X : K.In h) (G : h.Ns mainGlobals mg) (hfa : mg "law" = some (.ref fa))
    {od1 an1 od2 an2 od3 an3 od4 an4 od5 an5 od6 an6 od7 an7 od8 an8 od9 an9 od10 an10 od11 an11 od12 an12 od13 an13 od14 an14 od15 an15 od16 an16 od17 an17 od18 an18 od19 an19 od20 an20 od21 an21 od22 an22 od23 an23 od24 an24 od25 an25 od26 an26 od27 an27 od28 an28 od29 an29 od30 an30 od31 an31 od32 an32 od33 an33 od34 an34 od35 an35 od36 an36 od37 an37 : Option Addr} {sl1 sl2 sl3 sl4 sl5 sl6 sl7 sl8 sl9 sl10 sl11 sl12 sl13 sl14 sl15 sl16 sl17 sl18 sl19 sl20 sl21 sl22 sl23 sl24 sl25 sl26 sl27 sl28 sl29 sl30 sl31 sl32 sl33 sl34 sl35 sl36 sl37 : Array (Option Value)} {oc1 kV1 dc1 pm1 cd1 ct1 oc2 kV2 dc2 pm2 cd2 ct2 oc3 kV3 dc3 pm3 cd3 ct3 oc4 kV4 dc4 pm4 cd4 ct4 oc5 kV5 dc5 pm5 cd5 ct5 oc6 kV6 dc6 pm6 cd6 ct6 oc7 kV7 dc7 pm7 cd7 ct7 oc8 kV8 dc8 pm8 cd8 ct8 oc9 kV9 dc9 pm9 cd9 ct9 oc10 kV10 dc10 pm10 cd10 ct10 oc11 kV11 dc11 pm11 cd11 ct11 oc12 kV12 dc12 pm12 cd12 ct12 oc13 kV13 dc13 pm13 cd13 ct13 oc14 kV14 dc14 pm14 cd14 ct14 oc15 kV15 dc15 pm15 cd15 ct15 oc16 kV16 dc16 pm16 cd16 ct16 oc17 kV17 dc17 pm17 cd17 ct17 oc18 kV18 dc18 pm18 cd18 ct18 oc19 kV19 dc19 pm19 cd19 ct19 oc20 kV20 dc20 pm20 cd20 ct20 oc21 kV21 dc21 pm21 cd21 ct21 oc22 kV22 dc22 pm22 cd22 ct22 oc23 kV23 dc23 pm23 cd23 ct23 oc24 kV24 dc24 pm24 cd24 ct24 oc25 kV25 dc25 pm25 cd25 ct25 oc26 kV26 dc26 pm26 cd26 ct26 oc27 kV27 dc27 pm27 cd27 ct27 oc28 kV28 dc28 pm28 cd28 ct28 oc29 kV29 dc29 pm29 cd29 ct29 oc30 kV30 dc30 pm30 cd30 ct30 oc31 kV31 dc31 pm31 cd31 ct31 oc32 kV32 dc32 pm32 cd32 ct32 oc33 kV33 dc33 pm33 cd33 ct33 oc34 kV34 dc34 pm34 cd34 ct34 oc35 kV35 dc35 pm35 ct35 oc36 kV36 dc36 pm36 cd36 ct36 oc37 kV37 dc37 pm37 cd37 ct37 : Value}
    {nm q : Str} {bs : List Value} {sn : List Str} {sub : List Value} {ab : Bool} {col : Option Bool} {dd : Option Addr} {m0 m1 m2 m3 m5 : Option Value} {tc : Tok}
    (a1 : PySem.W.nsIn K mainGlobals "_law_bag" = some (some (.ref f1))) (l1 : K.lookup f1 = some ⟨oc1, od1, .func (PySem.W.fnOf "_law_bag" "_law_bag" (defArgs s_law_bag) (defBody s_law_bag) (defScope s_law_bag) .none kV1 dc1 pm1 an1 cd1 ct1), sl1⟩) (c1 : PySem.W.codeIn K cd1 "_law_bag" = true) (k1 : PySem.W.keepIn K (.ref f1) = true)
    (a2 : PySem.W.nsIn K mainGlobals "_law_take" = some (some (.ref f2))) (l2 : K.lookup f2 = some ⟨oc2, od2, .func (PySem.W.fnOf "_law_take" "_law_take" (defArgs s_law_take) (defBody s_law_take) (defScope s_law_take) .none kV2 dc2 pm2 an2 cd2 ct2), sl2⟩) (c2 : PySem.W.codeIn K cd2 "_law_take" = true) (k2 : PySem.W.keepIn K (.ref f2) = true)
    (a3 : PySem.W.nsIn K mainGlobals "_law_some" = some (some (.ref f3))) (l3 : K.lookup f3 = some ⟨oc3, od3, .func (PySem.W.fnOf "_law_some" "_law_some" (defArgs s_law_some) (defBody s_law_some) (defScope s_law_some) .none kV3 dc3 pm3 an3 cd3 ct3), sl3⟩) (c3 : PySem.W.codeIn K cd3 "_law_some" = true) (k3 : PySem.W.keepIn K (.ref f3) = true)
    (a4 : PySem.W.nsIn K mainGlobals "_law_row" = some (some (.ref f4))) (l4 : K.lookup f4 = some ⟨oc4, od4, .func (PySem.W.fnOf "_law_row" "_law_row" (defArgs s_law_row) (defBody s_law_row) (defScope s_law_row) .none kV4 dc4 pm4 an4 cd4 ct4), sl4⟩) (c4 : PySem.W.codeIn K cd4 "_law_row" = true) (k4 : PySem.W.keepIn K (.ref f4) = true)
    (a5 : PySem.W.nsIn K mainGlobals "_law_any_row" = some (some (.ref f5))) (l5 : K.lookup f5 = some ⟨oc5, od5, .func (PySem.W.fnOf "_law_any_row" "_law_any_row" (defArgs s_law_any_row) (defBody s_law_any_row) (defScope s_law_any_row) .none kV5 dc5 pm5 an5 cd5 ct5), sl5⟩) (c5 : PySem.W.codeIn K cd5 "_law_any_row" = true) (k5 : PySem.W.keepIn K (.ref f5) = true)
    (a6 : PySem.W.nsIn K mainGlobals "_law_worth" = some (some (.ref f6))) (l6 : K.lookup f6 = some ⟨oc6, od6, .func (PySem.W.fnOf "_law_worth" "_law_worth" (defArgs s_law_worth) (defBody s_law_worth) (defScope s_law_worth) .none kV6 dc6 pm6 an6 cd6 ct6), sl6⟩) (c6 : PySem.W.codeIn K cd6 "_law_worth" = true) (k6 : PySem.W.keepIn K (.ref f6) = true)
    (a7 : PySem.W.nsIn K mainGlobals "_law_mask" = some (some (.ref f7))) (l7 : K.lookup f7 = some ⟨oc7, od7, .func (PySem.W.fnOf "_law_mask" "_law_mask" (defArgs s_law_mask) (defBody s_law_mask) (defScope s_law_mask) .none kV7 dc7 pm7 an7 cd7 ct7), sl7⟩) (c7 : PySem.W.codeIn K cd7 "_law_mask" = true) (k7 : PySem.W.keepIn K (.ref f7) = true)
    (a8 : PySem.W.nsIn K mainGlobals "_law_flat_of" = some (some (.ref f8))) (l8 : K.lookup f8 = some ⟨oc8, od8, .func (PySem.W.fnOf "_law_flat_of" "_law_flat_of" (defArgs s_law_flat_of) (defBody s_law_flat_of) (defScope s_law_flat_of) .none kV8 dc8 pm8 an8 cd8 ct8), sl8⟩) (c8 : PySem.W.codeIn K cd8 "_law_flat_of" = true) (k8 : PySem.W.keepIn K (.ref f8) = true)
    (a9 : PySem.W.nsIn K mainGlobals "_law_drawn_flat" = some (some (.ref f9))) (l9 : K.lookup f9 = some ⟨oc9, od9, .func (PySem.W.fnOf "_law_drawn_flat" "_law_drawn_flat" (defArgs s_law_drawn_flat) (defBody s_law_drawn_flat) (defScope s_law_drawn_flat) .none kV9 dc9 pm9 an9 cd9 ct9), sl9⟩) (c9 : PySem.W.codeIn K cd9 "_law_drawn_flat" = true) (k9 : PySem.W.keepIn K (.ref f9) = true)
    (a10 : PySem.W.nsIn K mainGlobals "_law_room" = some (some (.ref f10))) (l10 : K.lookup f10 = some ⟨oc10, od10, .func (PySem.W.fnOf "_law_room" "_law_room" (defArgs s_law_room) (defBody s_law_room) (defScope s_law_room) .none kV10 dc10 pm10 an10 cd10 ct10), sl10⟩) (c10 : PySem.W.codeIn K cd10 "_law_room" = true) (k10 : PySem.W.keepIn K (.ref f10) = true)
    (a11 : PySem.W.nsIn K mainGlobals "_law_bits" = some (some (.ref f11))) (l11 : K.lookup f11 = some ⟨oc11, od11, .func (PySem.W.fnOf "_law_bits" "_law_bits" (defArgs s_law_bits) (defBody s_law_bits) (defScope s_law_bits) .none kV11 dc11 pm11 an11 cd11 ct11), sl11⟩) (c11 : PySem.W.codeIn K cd11 "_law_bits" = true) (k11 : PySem.W.keepIn K (.ref f11) = true)
    (a12 : PySem.W.nsIn K mainGlobals "_law_least" = some (some (.ref f12))) (l12 : K.lookup f12 = some ⟨oc12, od12, .func (PySem.W.fnOf "_law_least" "_law_least" (defArgs s_law_least) (defBody s_law_least) (defScope s_law_least) .none kV12 dc12 pm12 an12 cd12 ct12), sl12⟩) (c12 : PySem.W.codeIn K cd12 "_law_least" = true) (k12 : PySem.W.keepIn K (.ref f12) = true)
    (a13 : PySem.W.nsIn K mainGlobals "_law_listed" = some (some (.ref f13))) (l13 : K.lookup f13 = some ⟨oc13, od13, .func (PySem.W.fnOf "_law_listed" "_law_listed" (defArgs s_law_listed) (defBody s_law_listed) (defScope s_law_listed) .none kV13 dc13 pm13 an13 cd13 ct13), sl13⟩) (c13 : PySem.W.codeIn K cd13 "_law_listed" = true) (k13 : PySem.W.keepIn K (.ref f13) = true)
    (a14 : PySem.W.nsIn K mainGlobals "_law_held" = some (some (.ref f14))) (l14 : K.lookup f14 = some ⟨oc14, od14, .func (PySem.W.fnOf "_law_held" "_law_held" (defArgs s_law_held) (defBody s_law_held) (defScope s_law_held) .none kV14 dc14 pm14 an14 cd14 ct14), sl14⟩) (c14 : PySem.W.codeIn K cd14 "_law_held" = true) (k14 : PySem.W.keepIn K (.ref f14) = true)
    (a15 : PySem.W.nsIn K mainGlobals "_law_in" = some (some (.ref f15))) (l15 : K.lookup f15 = some ⟨oc15, od15, .func (PySem.W.fnOf "_law_in" "_law_in" (defArgs s_law_in) (defBody s_law_in) (defScope s_law_in) .none kV15 dc15 pm15 an15 cd15 ct15), sl15⟩) (c15 : PySem.W.codeIn K cd15 "_law_in" = true) (k15 : PySem.W.keepIn K (.ref f15) = true)
    (a16 : PySem.W.nsIn K mainGlobals "_law_common_flat" = some (some (.ref f16))) (l16 : K.lookup f16 = some ⟨oc16, od16, .func (PySem.W.fnOf "_law_common_flat" "_law_common_flat" (defArgs s_law_common_flat) (defBody s_law_common_flat) (defScope s_law_common_flat) .none kV16 dc16 pm16 an16 cd16 ct16), sl16⟩) (c16 : PySem.W.codeIn K cd16 "_law_common_flat" = true) (k16 : PySem.W.keepIn K (.ref f16) = true)
    (a17 : PySem.W.nsIn K mainGlobals "worth_of" = some (some (.ref f17))) (l17 : K.lookup f17 = some ⟨oc17, od17, .func (PySem.W.fnOf "worth_of" "worth_of" (defArgs s_worth_of) (defBody s_worth_of) (defScope s_worth_of) .none kV17 dc17 pm17 an17 cd17 ct17), sl17⟩) (c17 : PySem.W.codeIn K cd17 "worth_of" = true) (k17 : PySem.W.keepIn K (.ref f17) = true)
    (a18 : PySem.W.nsIn K mainGlobals "holds" = some (some (.ref f18))) (l18 : K.lookup f18 = some ⟨oc18, od18, .func (PySem.W.fnOf "holds" "holds" (defArgs s_holds) (defBody s_holds) (defScope s_holds) .none kV18 dc18 pm18 an18 cd18 ct18), sl18⟩) (c18 : PySem.W.codeIn K cd18 "holds" = true) (k18 : PySem.W.keepIn K (.ref f18) = true)
    (a19 : PySem.W.nsIn K mainGlobals "together" = some (some (.ref f19))) (l19 : K.lookup f19 = some ⟨oc19, od19, .func (PySem.W.fnOf "together" "together" (defArgs s_together) (defBody s_together) (defScope s_together) .none kV19 dc19 pm19 an19 cd19 ct19), sl19⟩) (c19 : PySem.W.codeIn K cd19 "together" = true) (k19 : PySem.W.keepIn K (.ref f19) = true)
    (a20 : PySem.W.nsIn K mainGlobals "_both" = some (some (.ref f20))) (l20 : K.lookup f20 = some ⟨oc20, od20, .func (PySem.W.fnOf "_both" "_both" (defArgs s_both) (defBody s_both) (defScope s_both) .none kV20 dc20 pm20 an20 cd20 ct20), sl20⟩) (c20 : PySem.W.codeIn K cd20 "_both" = true) (k20 : PySem.W.keepIn K (.ref f20) = true)
    (a21 : PySem.W.nsIn K mainGlobals "_without_heads" = some (some (.ref f21))) (l21 : K.lookup f21 = some ⟨oc21, od21, .func (PySem.W.fnOf "_without_heads" "_without_heads" (defArgs s_without_heads) (defBody s_without_heads) (defScope s_without_heads) .none kV21 dc21 pm21 an21 cd21 ct21), sl21⟩) (c21 : PySem.W.codeIn K cd21 "_without_heads" = true) (k21 : PySem.W.keepIn K (.ref f21) = true)
    (a22 : PySem.W.nsIn K mainGlobals "flat_of" = some (some (.ref f22))) (l22 : K.lookup f22 = some ⟨oc22, od22, .func (PySem.W.fnOf "flat_of" "flat_of" (defArgs s_flat_of) (defBody s_flat_of) (defScope s_flat_of) .none kV22 dc22 pm22 an22 cd22 ct22), sl22⟩) (c22 : PySem.W.codeIn K cd22 "flat_of" = true) (k22 : PySem.W.keepIn K (.ref f22) = true)
    (a23 : PySem.W.nsIn K mainGlobals "_widened" = some (some (.ref f23))) (l23 : K.lookup f23 = some ⟨oc23, od23, .func (PySem.W.fnOf "_widened" "_widened" (defArgs s_widened) (defBody s_widened) (defScope s_widened) .none kV23 dc23 pm23 an23 cd23 ct23), sl23⟩) (c23 : PySem.W.codeIn K cd23 "_widened" = true) (k23 : PySem.W.keepIn K (.ref f23) = true)
    (a24 : PySem.W.nsIn K mainGlobals "least_flat" = some (some (.ref f24))) (l24 : K.lookup f24 = some ⟨oc24, od24, .func (PySem.W.fnOf "least_flat" "least_flat" (defArgs s_least_flat) (defBody s_least_flat) (defScope s_least_flat) .none kV24 dc24 pm24 an24 cd24 ct24), sl24⟩) (c24 : PySem.W.codeIn K cd24 "least_flat" = true) (k24 : PySem.W.keepIn K (.ref f24) = true)
    (a25 : PySem.W.nsIn K mainGlobals "_law_alike" = some (some (.ref f25))) (l25 : K.lookup f25 = some ⟨oc25, od25, .func (PySem.W.fnOf "_law_alike" "_law_alike" (defArgs s_law_alike) (defBody s_law_alike) (defScope s_law_alike) .none kV25 dc25 pm25 an25 cd25 ct25), sl25⟩) (c25 : PySem.W.codeIn K cd25 "_law_alike" = true) (k25 : PySem.W.keepIn K (.ref f25) = true)
    (a26 : PySem.W.nsIn K mainGlobals "told_on" = some (some (.ref f26))) (l26 : K.lookup f26 = some ⟨oc26, od26, .func (PySem.W.fnOf "told_on" "told_on" (defArgs s_told_on) (defBody s_told_on) (defScope s_told_on) .none kV26 dc26 pm26 an26 cd26 ct26), sl26⟩) (c26 : PySem.W.codeIn K cd26 "told_on" = true) (k26 : PySem.W.keepIn K (.ref f26) = true)
    (a27 : PySem.W.nsIn K mainGlobals "lies_in" = some (some (.ref f27))) (l27 : K.lookup f27 = some ⟨oc27, od27, .func (PySem.W.fnOf "lies_in" "lies_in" (defArgs s_lies_in) (defBody s_lies_in) (defScope s_lies_in) .none kV27 dc27 pm27 an27 cd27 ct27), sl27⟩) (c27 : PySem.W.codeIn K cd27 "lies_in" = true) (k27 : PySem.W.keepIn K (.ref f27) = true)
    (a28 : PySem.W.nsIn K mainGlobals "is_in" = some (some (.ref f28))) (l28 : K.lookup f28 = some ⟨oc28, od28, .func (PySem.W.fnOf "is_in" "is_in" (defArgs s_is_in) (defBody s_is_in) (defScope s_is_in) .none kV28 dc28 pm28 an28 cd28 ct28), sl28⟩) (c28 : PySem.W.codeIn K cd28 "is_in" = true) (k28 : PySem.W.keepIn K (.ref f28) = true)
    (a29 : PySem.W.nsIn K mainGlobals "_law_is_least_right" = some (some (.ref f29))) (l29 : K.lookup f29 = some ⟨oc29, od29, .func (PySem.W.fnOf "_law_is_least_right" "_law_is_least_right" (defArgs s_law_is_least_right) (defBody s_law_is_least_right) (defScope s_law_is_least_right) .none kV29 dc29 pm29 an29 cd29 ct29), sl29⟩) (c29 : PySem.W.codeIn K cd29 "_law_is_least_right" = true) (k29 : PySem.W.keepIn K (.ref f29) = true)
    (a30 : PySem.W.nsIn K mainGlobals "_law_told" = some (some (.ref f30))) (l30 : K.lookup f30 = some ⟨oc30, od30, .func (PySem.W.fnOf "_law_told" "_law_told" (defArgs s_law_told) (defBody s_law_told) (defScope s_law_told) .none kV30 dc30 pm30 an30 cd30 ct30), sl30⟩) (c30 : PySem.W.codeIn K cd30 "_law_told" = true) (k30 : PySem.W.keepIn K (.ref f30) = true)
    (a31 : PySem.W.nsIn K mainGlobals "_law_halves" = some (some (.ref f31))) (l31 : K.lookup f31 = some ⟨oc31, od31, .func (PySem.W.fnOf "_law_halves" "_law_halves" (defArgs s_law_halves) (defBody s_law_halves) (defScope s_law_halves) .none kV31 dc31 pm31 an31 cd31 ct31), sl31⟩) (c31 : PySem.W.codeIn K cd31 "_law_halves" = true) (k31 : PySem.W.keepIn K (.ref f31) = true)
    (a32 : PySem.W.nsIn K mainGlobals "_law_all_flats" = some (some (.ref f32))) (l32 : K.lookup f32 = some ⟨oc32, od32, .func (PySem.W.fnOf "_law_all_flats" "_law_all_flats" (defArgs s_law_all_flats) (defBody s_law_all_flats) (defScope s_law_all_flats) .none kV32 dc32 pm32 an32 cd32 ct32), sl32⟩) (c32 : PySem.W.codeIn K cd32 "_law_all_flats" = true) (k32 : PySem.W.keepIn K (.ref f32) = true)
    (a33 : PySem.W.nsIn K mainGlobals "_lines_ahead" = some (some (.ref f33))) (l33 : K.lookup f33 = some ⟨oc33, od33, .func (PySem.W.fnOf "_lines_ahead" "_lines_ahead" (defArgs s_lines_ahead) (defBody s_lines_ahead) (defScope s_lines_ahead) .none kV33 dc33 pm33 an33 cd33 ct33), sl33⟩) (c33 : PySem.W.codeIn K cd33 "_lines_ahead" = true) (k33 : PySem.W.keepIn K (.ref f33) = true)
    (a34 : PySem.W.nsIn K mainGlobals "all_flats" = some (some (.ref f34))) (l34 : K.lookup f34 = some ⟨oc34, od34, .func (PySem.W.fnOf "all_flats" "all_flats" (defArgs s_all_flats) (defBody s_all_flats) (defScope s_all_flats) .none kV34 dc34 pm34 an34 cd34 ct34), sl34⟩) (c34 : PySem.W.codeIn K cd34 "all_flats" = true) (k34 : PySem.W.keepIn K (.ref f34) = true)
    (a35 : PySem.W.nsIn K mainGlobals "law" = some (some (.ref f35))) (l35 : K.lookup f35 = some ⟨oc35, od35, .func (PySem.W.fnOf "law" "law" (defArgs s_law) (defBody s_law) (defScope s_law) .none kV35 dc35 pm35 an35 (.ref lc) ct35), sl35⟩) (c35 : PySem.W.codeIn K (.ref lc) "law" = true) (k35 : PySem.W.keepIn K (.ref f35) = true)
    (a36 : PySem.W.nsIn K mainGlobals "_law_heard" = some (some (.ref f36))) (l36 : K.lookup f36 = some ⟨oc36, od36, .func (PySem.W.fnOf "_law_heard" "_law_heard" (defArgs (topS 41)) (defBody (topS 41)) (defScope (topS 41)) .none kV36 dc36 pm36 an36 cd36 ct36), sl36⟩) (c36 : PySem.W.codeIn K cd36 "_law_heard" = true) (k36 : PySem.W.keepIn K (.ref f36) = true)
    (l37 : K.lookup f37 = some ⟨oc37, od37, .func (PySem.W.fnOf "__init__" "TooMany.__init__" (defArgs s_iniT) (defBody s_iniT) (defScope s_iniT) .none kV37 dc37 pm37 an37 cd37 ct37), sl37⟩) (c37 : PySem.W.codeIn K cd37 "TooMany.__init__" = true) (k37 : PySem.W.keepIn K (.ref f37) = true)
    (z1 : PySem.W.nsIn K mainGlobals "tuple" = some none)
    (z2 : PySem.W.nsIn K mainGlobals "sorted" = some none)
    (z3 : PySem.W.nsIn K mainGlobals "sum" = some none)
    (z4 : PySem.W.nsIn K mainGlobals "enumerate" = some none)
    (z5 : PySem.W.nsIn K mainGlobals "reversed" = some none)
    (z6 : PySem.W.nsIn K mainGlobals "range" = some none)
    (z7 : PySem.W.nsIn K mainGlobals "abs" = some none)
    (z8 : PySem.W.nsIn K mainGlobals "int" = some none)
    (z9 : PySem.W.nsIn K mainGlobals "len" = some none)
    (z10 : PySem.W.nsIn K mainGlobals "repr" = some none)
    (z11 : PySem.W.nsIn K mainGlobals "list" = some none)
    (z12 : PySem.W.nsIn K mainGlobals "set" = some none)
    (gM : PySem.W.nsIn K mainGlobals "MOST_UNKNOWNS_LISTED" = some (some (.int 4 tc)))
    (xT : K.lookup CT = some (excClassObj nm q CT N bs [.ref S, .type "ValueError", .type "Exception", .type "BaseException", .type "object"] true sn sub ab col dd m0 m1 m2 m3 m5 "ValueError.__new__"))
    (saT : PySem.W.findIn K (.ref CT) "__setattr__" = some (some (.builtin "object.__setattr__")))
    (iT : PySem.W.findIn K (.ref CT) "__init__" = some (some (.ref f37)))
    (tT : PySem.W.typeIn K (.ref f37) = some (.type "function"))
    (kT : PySem.W.keepIn K (.ref CT) = true)
    (gW : PySem.W.nsIn K mainGlobals "Wrong" = some (some (.ref CW)))
    (gaW : PySem.W.findIn K (.ref CW) "__getattribute__" = some (some (.builtin "BaseException.__getattribute__")))
    (ggW : PySem.W.findIn K (.ref CW) "__getattr__" = some none)
    (noW : PySem.W.findIn K (.ref CW) "place" = some none)
    (exW : PySem.W.subIn K (.ref CW) (.type "BaseException") = some true)
    (tyW : PySem.W.typeIn K (.ref CW) = some (.type "type"))
    (hdW : PySem.W.hasDictIn K CW = true)
    (icW : PySem.W.isClsIn K CW = true)
    (meW : PySem.W.subIn K (.ref CW) (.ref CW) = some true)
    (gN : PySem.W.nsIn K mainGlobals "NoText" = some (some (.ref CN)))
    (gaN : PySem.W.findIn K (.ref CN) "__getattribute__" = some (some (.builtin "BaseException.__getattribute__")))
    (ggN : PySem.W.findIn K (.ref CN) "__getattr__" = some none)
    (noN : PySem.W.findIn K (.ref CN) "line" = some none)
    (exN : PySem.W.subIn K (.ref CN) (.type "BaseException") = some true)
    (tyN : PySem.W.typeIn K (.ref CN) = some (.type "type"))
    (hdN : PySem.W.hasDictIn K CN = true)
    (icN : PySem.W.isClsIn K CN = true)
    (meN : PySem.W.subIn K (.ref CN) (.ref CN) = some true)
    (gT : PySem.W.nsIn K mainGlobals "TooMany" = some (some (.ref CT)))
    (gaT : PySem.W.findIn K (.ref CT) "__getattribute__" = some (some (.builtin "BaseException.__getattribute__")))
    (ggT : PySem.W.findIn K (.ref CT) "__getattr__" = some none)
    (noT : PySem.W.findIn K (.ref CT) "most" = some none)
    (exT : PySem.W.subIn K (.ref CT) (.type "BaseException") = some true)
    (tyT : PySem.W.typeIn K (.ref CT) = some (.type "type"))
    (hdT : PySem.W.hasDictIn K CT = true)
    (icT : PySem.W.isClsIn K CT = true)
    (meT : PySem.W.subIn K (.ref CT) (.ref CT) = some true)
    (nw : PySem.W.subIn K (.ref CN) (.ref CW) = some false)
    (tw : PySem.W.subIn K (.ref CT) (.ref CW) = some false)
    (tn : PySem.W.subIn K (.ref CT) (.ref CN) = some false) :
    ∃ fd : FuncData, (∀ (s : Shared) (v : Value), BindsTo s fd ⟨[v], []⟩ [("script", v)]) ∧ ∀ base : Heap, K.In base → base.Ns mainGlobals mg → TabB base mg lc lp → FnG l.prog w K mg base 8 fa fd ["script"] (sp_law10 lp K) := by
  have e := hfa.symm.trans (PySem.W.mg_of X G a35)
  cases e
  have F1 := fun_mk (st := s_law_bag) l1 c1 k1
  have b1 := F1.binds (ps := ["script"]) fun _ _ _ _ _ _ us hl => match us, hl with | [_], _ => rfl
  have F2 := fun_mk (st := s_law_take) l2 c2 k2
  have b2 := F2.binds (ps := ["bag", "many"]) fun _ _ _ _ _ _ us hl => match us, hl with | [_, _], _ => rfl
  have F3 := fun_mk (st := s_law_some) l3 c3 k3
  have b3 := F3.binds (ps := ["bag", "things"]) fun _ _ _ _ _ _ us hl => match us, hl with | [_, _], _ => rfl
  have F4 := fun_mk (st := s_law_row) l4 c4 k4
  have b4 := F4.binds (ps := ["mask"]) fun _ _ _ _ _ _ us hl => match us, hl with | [_], _ => rfl
  have F5 := fun_mk (st := s_law_any_row) l5 c5 k5
  have b5 := F5.binds (ps := ["bag", "many"]) fun _ _ _ _ _ _ us hl => match us, hl with | [_, _], _ => rfl
  have F6 := fun_mk (st := s_law_worth) l6 c6 k6
  have b6 := F6.binds (ps := ["row", "bits"]) fun _ _ _ _ _ _ us hl => match us, hl with | [_, _], _ => rfl
  have F7 := fun_mk (st := s_law_mask) l7 c7 k7
  have b7 := F7.binds (ps := ["row"]) fun _ _ _ _ _ _ us hl => match us, hl with | [_], _ => rfl
  have F8 := fun_mk (st := s_law_flat_of) l8 c8 k8
  have b8 := F8.binds (ps := ["lines"]) fun _ _ _ _ _ _ us hl => match us, hl with | [_], _ => rfl
  have F9 := fun_mk (st := s_law_drawn_flat) l9 c9 k9
  have b9 := F9.binds (ps := ["bag", "many", "most"]) fun _ _ _ _ _ _ us hl => match us, hl with | [_, _, _], _ => rfl
  have F10 := fun_mk (st := s_law_room) l10 c10 k10
  have b10 := F10.binds (ps := ["many"]) fun _ _ _ _ _ _ us hl => match us, hl with | [_], _ => rfl
  have F11 := fun_mk (st := s_law_bits) l11 c11 k11
  have b11 := F11.binds (ps := ["room", "place"]) fun _ _ _ _ _ _ us hl => match us, hl with | [_, _], _ => rfl
  have F12 := fun_mk (st := s_law_least) l12 c12 k12
  have b12 := F12.binds (ps := ["room", "some"]) fun _ _ _ _ _ _ us hl => match us, hl with | [_, _], _ => rfl
  have F13 := fun_mk (st := s_law_listed) l13 c13 k13
  have b13 := F13.binds (ps := ["room", "some"]) fun _ _ _ _ _ _ us hl => match us, hl with | [_, _], _ => rfl
  have F14 := fun_mk (st := s_law_held) l14 c14 k14
  have b14 := F14.binds (ps := ["room", "line"]) fun _ _ _ _ _ _ us hl => match us, hl with | [_, _], _ => rfl
  have F15 := fun_mk (st := s_law_in) l15 c15 k15
  have b15 := F15.binds (ps := ["room", "flat"]) fun _ _ _ _ _ _ us hl => match us, hl with | [_, _], _ => rfl
  have F16 := fun_mk (st := s_law_common_flat) l16 c16 k16
  have b16 := F16.binds (ps := ["many", "some"]) fun _ _ _ _ _ _ us hl => match us, hl with | [_, _], _ => rfl
  have F17 := fun_mk (st := s_worth_of) l17 c17 k17
  have b17 := F17.binds (ps := ["row", "bits"]) fun _ _ _ _ _ _ us hl => match us, hl with | [_, _], _ => rfl
  have F18 := fun_mk (st := s_holds) l18 c18 k18
  have b18 := F18.binds (ps := ["line", "bits"]) fun _ _ _ _ _ _ us hl => match us, hl with | [_, _], _ => rfl
  have F19 := fun_mk (st := s_together) l19 c19 k19
  have b19 := F19.binds (ps := ["sums"]) fun _ _ _ _ _ _ us hl => match us, hl with | [_], _ => rfl
  have F20 := fun_mk (st := s_both) l20 c20 k20
  have b20 := F20.binds (ps := ["one", "other"]) fun _ _ _ _ _ _ us hl => match us, hl with | [_, _], _ => rfl
  have F21 := fun_mk (st := s_without_heads) l21 c21 k21
  have b21 := F21.binds (ps := ["flat", "line"]) fun _ _ _ _ _ _ us hl => match us, hl with | [_, _], _ => rfl
  have F22 := fun_mk (st := s_flat_of) l22 c22 k22
  have b22 := F22.binds (ps := ["lines"]) fun _ _ _ _ _ _ us hl => match us, hl with | [_], _ => rfl
  have F23 := fun_mk (st := s_widened) l23 c23 k23
  have b23 := F23.binds (ps := ["flat", "bits"]) fun _ _ _ _ _ _ us hl => match us, hl with | [_, _], _ => rfl
  have F24 := fun_mk (st := s_least_flat) l24 c24 k24
  have b24 := F24.binds (ps := ["some"]) fun _ _ _ _ _ _ us hl => match us, hl with | [_], _ => rfl
  have F25 := fun_mk (st := s_law_alike) l25 c25 k25
  have b25 := F25.binds (ps := ["found", "due"]) fun _ _ _ _ _ _ us hl => match us, hl with | [_, _], _ => rfl
  have F26 := fun_mk (st := s_told_on) l26 c26 k26
  have b26 := F26.binds (ps := ["flat", "row"]) fun _ _ _ _ _ _ us hl => match us, hl with | [_, _], _ => rfl
  have F27 := fun_mk (st := s_lies_in) l27 c27 k27
  have b27 := F27.binds (ps := ["one", "other"]) fun _ _ _ _ _ _ us hl => match us, hl with | [_, _], _ => rfl
  have F28 := fun_mk (st := s_is_in) l28 c28 k28
  have b28 := F28.binds (ps := ["flat", "bits"]) fun _ _ _ _ _ _ us hl => match us, hl with | [_, _], _ => rfl
  have F29 := fun_mk (st := s_law_is_least_right) l29 c29 k29
  have b29 := F29.binds (ps := ["bag", "many"]) fun _ _ _ _ _ _ us hl => match us, hl with | [_, _], _ => rfl
  have F30 := fun_mk (st := s_law_told) l30 c30 k30
  have b30 := F30.binds (ps := ["flat", "row"]) fun _ _ _ _ _ _ us hl => match us, hl with | [_, _], _ => rfl
  have F31 := fun_mk (st := s_law_halves) l31 c31 k31
  have b31 := F31.binds (ps := ["flat", "row"]) fun _ _ _ _ _ _ us hl => match us, hl with | [_, _], _ => rfl
  have F32 := fun_mk (st := s_law_all_flats) l32 c32 k32
  have b32 := F32.binds (ps := ["many"]) fun _ _ _ _ _ _ us hl => match us, hl with | [_], _ => rfl
  have F33 := fun_mk (st := s_lines_ahead) l33 c33 k33
  have b33 := F33.binds (ps := ["many", "unknown", "flat"]) fun _ _ _ _ _ _ us hl => match us, hl with | [_, _, _], _ => rfl
  have F34 := fun_mk (st := s_all_flats) l34 c34 k34
  have b34 := F34.binds (ps := ["many"]) fun _ _ _ _ _ _ us hl => match us, hl with | [_], _ => rfl
  have F36 := fun_mk (st := topS 41) l36 c36 k36
  have b36 := F36.binds (ps := ["act"]) fun _ _ _ _ _ _ us hl => match us, hl with | [_], _ => rfl
  have F37 := fun_mk (st := s_iniT) l37 c37 k37
  have b37 := F37.binds (ps := ["self", "most"]) fun _ _ _ _ _ _ us hl => match us, hl with | [_, _], _ => rfl
  have T : Txt mg := ⟨PySem.W.mg_none_of X G z1, PySem.W.mg_none_of X G z2, PySem.W.mg_none_of X G z3, PySem.W.mg_none_of X G z4, PySem.W.mg_none_of X G z5, PySem.W.mg_none_of X G z6, PySem.W.mg_none_of X G z7, PySem.W.mg_none_of X G z8, PySem.W.mg_none_of X G z9, PySem.W.mg_none_of X G z10, PySem.W.mg_none_of X G z11, PySem.W.mg_none_of X G z12, ⟨_, PySem.W.mg_of X G gM⟩⟩
  have TE : ErrC K mg "TooMany" "most" CT f37 := ⟨⟨⟨nm, q, N, bs, _, sn, sub, ab, col, dd, m0, m1, m2, m3, m5, xT, by rfl⟩, saT, exT, tyT, kT⟩, PySem.W.mg_of X G gT, iT, tT, ⟨gaT, ggT, exT, hdT⟩, noT⟩
  have TH : Hear3 K mg CW CN CT := ⟨⟨PySem.W.mg_of X G gW, ⟨gaW, ggW, exW, hdW⟩, noW, exm_of exW icW tyW meW⟩, ⟨PySem.W.mg_of X G gN, ⟨gaN, ggN, exN, hdN⟩, noN, exm_of exN icN tyN meN⟩, ⟨PySem.W.mg_of X G gT, ⟨gaT, ggT, exT, hdT⟩, noT, exm_of exT icT tyT meT⟩, exm_of exW icW tyW nw, exm_of exW icW tyW tw, exm_of exN icN tyN tn⟩
  refine ⟨PySem.W.fnOf "law" "law" (defArgs s_law) (defBody s_law) (defScope s_law) .none kV35 dc35 pm35 an35 (.ref lc) ct35, fun s v => .of_eq rfl, fun base _ _ TB => ?_⟩
  have y1 : CalleeOf l.prog w K mg base 1 "_law_bag" ["script"] (sp_law_bag K) := ⟨f1, _, ok_law_bag F1 T , PySem.W.mg_of X G a1, k1, b1⟩
  have y2 : CalleeOf l.prog w K mg base 1 "_law_take" ["bag", "many"] (sp_law_take K) := ⟨f2, _, ok_law_take F2 T , PySem.W.mg_of X G a2, k2, b2⟩
  have y3 : CalleeOf l.prog w K mg base 2 "_law_some" ["bag", "things"] (sp_law_some K) := ⟨f3, _, ok_law_some F3 T y2, PySem.W.mg_of X G a3, k3, b3⟩
  have y4 : CalleeOf l.prog w K mg base 1 "_law_row" ["mask"] (sp_law_row K) := ⟨f4, _, ok_law_row F4 T , PySem.W.mg_of X G a4, k4, b4⟩
  have y5 : CalleeOf l.prog w K mg base 3 "_law_any_row" ["bag", "many"] (sp_law_any_row K) := ⟨f5, _, ok_law_any_row F5 T y3 y2 y4, PySem.W.mg_of X G a5, k5, b5⟩
  have y6 : CalleeOf l.prog w K mg base 1 "_law_worth" ["row", "bits"] (sp_law_worthS K) := ⟨f6, _, ok_law_worth F6 T , PySem.W.mg_of X G a6, k6, b6⟩
  have y7 : CalleeOf l.prog w K mg base 1 "_law_mask" ["row"] (sp_law_mask K) := ⟨f7, _, ok_law_mask F7 T , PySem.W.mg_of X G a7, k7, b7⟩
  have y8 : CalleeOf l.prog w K mg base 2 "_law_flat_of" ["lines"] (sp_flat_of K) := ⟨f8, _, ok_law_flat_of F8 T y7 y4, PySem.W.mg_of X G a8, k8, b8⟩
  have y9 : CalleeOf l.prog w K mg base 4 "_law_drawn_flat" ["bag", "many", "most"] (sp_law_drawn_flat K) := ⟨f9, _, ok_law_drawn_flat F9 T y2 y5 (callee_mono worthS_mono y6) y8, PySem.W.mg_of X G a9, k9, b9⟩
  have y10 : CalleeOf l.prog w K mg base 1 "_law_room" ["many"] (sp_law_roomZ K) := ⟨f10, _, ok_law_room F10 T , PySem.W.mg_of X G a10, k10, b10⟩
  have y11 : CalleeOf l.prog w K mg base 1 "_law_bits" ["room", "place"] (sp_law_bitsZ K) := ⟨f11, _, ok_law_bits F11 T , PySem.W.mg_of X G a11, k11, b11⟩
  have y12 : CalleeOf l.prog w K mg base 2 "_law_least" ["room", "some"] (sp_law_leastZ K) := ⟨f12, _, ok_law_least F12 T y11, PySem.W.mg_of X G a12, k12, b12⟩
  have y13 : CalleeOf l.prog w K mg base 3 "_law_listed" ["room", "some"] (sp_law_listedZ K) := ⟨f13, _, ok_law_listed F13 T y12, PySem.W.mg_of X G a13, k13, b13⟩
  have y14 : CalleeOf l.prog w K mg base 1 "_law_held" ["room", "line"] (sp_law_heldZ K) := ⟨f14, _, ok_law_held F14 T , PySem.W.mg_of X G a14, k14, b14⟩
  have y15 : CalleeOf l.prog w K mg base 2 "_law_in" ["room", "flat"] (sp_law_inZ K) := ⟨f15, _, ok_law_in F15 T y14, PySem.W.mg_of X G a15, k15, b15⟩
  have y16 : CalleeOf l.prog w K mg base 3 "_law_common_flat" ["many", "some"] (sp_law_common_flat K) := ⟨f16, _, ok_law_common_flat F16 T y6 y4 y8, PySem.W.mg_of X G a16, k16, b16⟩
  have y17 : CalleeOf l.prog w K mg base 1 "worth_of" ["row", "bits"] (sp_worth_of K) := ⟨f17, _, ok_worth_of F17 T , PySem.W.mg_of X G a17, k17, b17⟩
  have y18 : CalleeOf l.prog w K mg base 2 "holds" ["line", "bits"] (sp_holds K) := ⟨f18, _, ok_holds F18 T y17, PySem.W.mg_of X G a18, k18, b18⟩
  have y19 : CalleeOf l.prog w K mg base 1 "together" ["sums"] (sp_together K) := ⟨f19, _, ok_together F19 T , PySem.W.mg_of X G a19, k19, b19⟩
  have y20 : CalleeOf l.prog w K mg base 2 "_both" ["one", "other"] (sp_both K) := ⟨f20, _, ok_both F20 T y19, PySem.W.mg_of X G a20, k20, b20⟩
  have y21 : CalleeOf l.prog w K mg base 3 "_without_heads" ["flat", "line"] (sp_without_heads K) := ⟨f21, _, ok_without_heads F21 T y20, PySem.W.mg_of X G a21, k21, b21⟩
  have y22 : CalleeOf l.prog w K mg base 4 "flat_of" ["lines"] (sp_flat_ofS K) := ⟨f22, _, ok_flat_of F22 T y21, PySem.W.mg_of X G a22, k22, b22⟩
  have y23 : CalleeOf l.prog w K mg base 5 "_widened" ["flat", "bits"] (sp_widened K) := ⟨f23, _, ok_widened F23 T y18 y22 y20, PySem.W.mg_of X G a23, k23, b23⟩
  have y24 : CalleeOf l.prog w K mg base 6 "least_flat" ["some"] (sp_least_flat K) := ⟨f24, _, ok_least_flat F24 T y23, PySem.W.mg_of X G a24, k24, b24⟩
  have y25 : CalleeOf l.prog w K mg base 1 "_law_alike" ["found", "due"] (sp_law_alike K) := ⟨f25, _, ok_law_alike F25 T , PySem.W.mg_of X G a25, k25, b25⟩
  have y26 : CalleeOf l.prog w K mg base 4 "told_on" ["flat", "row"] (sp_told_on K) := ⟨f26, _, ok_told_on F26 T y21, PySem.W.mg_of X G a26, k26, b26⟩
  have y27 : CalleeOf l.prog w K mg base 5 "lies_in" ["one", "other"] (sp_lies_in K) := ⟨f27, _, ok_lies_in F27 T y26, PySem.W.mg_of X G a27, k27, b27⟩
  have y28 : CalleeOf l.prog w K mg base 3 "is_in" ["flat", "bits"] (sp_is_in K) := ⟨f28, _, ok_is_in F28 T y18, PySem.W.mg_of X G a28, k28, b28⟩
  have y29 : CalleeOf l.prog w K mg base 7 "_law_is_least_right" ["bag", "many"] (sp_law_is_least_right K) := ⟨f29, _, ok_law_is_least_right F29 T y9 y10 y13 y15 y2 y3 y16 y24 y25 y27 y28, PySem.W.mg_of X G a29, k29, b29⟩
  have y30 : CalleeOf l.prog w K mg base 2 "_law_told" ["flat", "row"] (sp_law_told K) := ⟨f30, _, ok_law_told F30 T y7, PySem.W.mg_of X G a30, k30, b30⟩
  have y31 : CalleeOf l.prog w K mg base 3 "_law_halves" ["flat", "row"] (sp_law_halves K) := ⟨f31, _, ok_law_halves F31 T y8, PySem.W.mg_of X G a31, k31, b31⟩
  have y32 : CalleeOf l.prog w K mg base 4 "_law_all_flats" ["many"] (sp_law_all_flats K) := ⟨f32, _, ok_law_all_flats F32 T y30 y4 y31, PySem.W.mg_of X G a32, k32, b32⟩
  have y33 : CalleeOf l.prog w K mg base 1 "_lines_ahead" ["many", "unknown", "flat"] (sp_lines_ahead K) := ⟨f33, _, ok_lines_ahead F33 T , PySem.W.mg_of X G a33, k33, b33⟩
  have y34 : CalleeOf l.prog w K mg base 2 "all_flats" ["many"] (sp_all_flats K) := ⟨f34, _, ok_all_flats F34 T y33, PySem.W.mg_of X G a34, k34, b34⟩
  have cM : CalleeR l.prog w K mg base 3 "all_flats" ["many"] (sp_all5 K CT) := ⟨f34, _, ok_all5 F34 T TE F37 b37, PySem.W.mg_of X G a34, k34, b34⟩
  exact ok_law l35 c35 T l36 c36 (PySem.W.mg_of X G a36) k36 b36 TH TB cM y1 y29 y3 y25 y32 y34
end Es
open PySem PySem.W PyProof.Rows
set_option maxHeartbeats 0 in
theorem PySem.Challenge.cw_eithersums_k10_least_flats_and_all_flats_holds : PySem.Challenge.rw_eithersums_k10_least_flats_and_all_flats.Holds := by
  w_on; o_law; k_head; (case hw => w_witness2)
  k_fill
  refine' Es.walkT1 (c := _) (l := PySem.Challenge.rw_eithersums_k10_least_flats_and_all_flats) (n := 63) (k := 8) (x := "script") (sp := Es.sp_law10) rfl (by decide) rfl ⟨rfl, by decide, by decide⟩ (fun w h Y => km_in_of Y) (fun w h Y => km_tabs_of Y _ List.mem_cons_self) ?hN ?hF ?hC (fun _ _ a ns hl hS hT => ⟨a, ns, rfl, hS, hl, hT, fun _ => rfl⟩)
  case hF =>
    intro w mg fa h KX G hmg
    refine' Es.all_mk KX G hmg ?a1 ?l1 ?c1 ?k1 ?a2 ?l2 ?c2 ?k2 ?a3 ?l3 ?c3 ?k3 ?a4 ?l4 ?c4 ?k4 ?a5 ?l5 ?c5 ?k5 ?a6 ?l6 ?c6 ?k6 ?a7 ?l7 ?c7 ?k7 ?a8 ?l8 ?c8 ?k8 ?a9 ?l9 ?c9 ?k9 ?a10 ?l10 ?c10 ?k10 ?a11 ?l11 ?c11 ?k11 ?a12 ?l12 ?c12 ?k12 ?a13 ?l13 ?c13 ?k13 ?a14 ?l14 ?c14 ?k14 ?a15 ?l15 ?c15 ?k15 ?a16 ?l16 ?c16 ?k16 ?a17 ?l17 ?c17 ?k17 ?a18 ?l18 ?c18 ?k18 ?a19 ?l19 ?c19 ?k19 ?a20 ?l20 ?c20 ?k20 ?a21 ?l21 ?c21 ?k21 ?a22 ?l22 ?c22 ?k22 ?a23 ?l23 ?c23 ?k23 ?a24 ?l24 ?c24 ?k24 ?a25 ?l25 ?c25 ?k25 ?a26 ?l26 ?c26 ?k26 ?a27 ?l27 ?c27 ?k27 ?a28 ?l28 ?c28 ?k28 ?a29 ?l29 ?c29 ?k29 ?a30 ?l30 ?c30 ?k30 ?a31 ?l31 ?c31 ?k31 ?a32 ?l32 ?c32 ?k32 ?a33 ?l33 ?c33 ?k33 ?a34 ?l34 ?c34 ?k34 ?a35 ?l35 ?c35 ?k35 ?a36 ?l36 ?c36 ?k36 ?l37 ?c37 ?k37 ?z1 ?z2 ?z3 ?z4 ?z5 ?z6 ?z7 ?z8 ?z9 ?z10 ?z11 ?z12 ?gM ?xT ?saT ?iT ?tT ?kT ?gW ?gaW ?ggW ?noW ?exW ?tyW ?hdW ?icW ?meW ?gN ?gaN ?ggN ?noN ?exN ?tyN ?hdN ?icN ?meN ?gT ?gaT ?ggT ?noT ?exT ?tyT ?hdT ?icT ?meT ?nw ?tw ?tn
    (case a1 => first | k_is | rfl)
    (case a2 => first | k_is | rfl)
    (case a3 => first | k_is | rfl)
    (case a4 => first | k_is | rfl)
    (case a5 => first | k_is | rfl)
    (case a6 => first | k_is | rfl)
    (case a7 => first | k_is | rfl)
    (case a8 => first | k_is | rfl)
    (case a9 => first | k_is | rfl)
    (case a10 => first | k_is | rfl)
    (case a11 => first | k_is | rfl)
    (case a12 => first | k_is | rfl)
    (case a13 => first | k_is | rfl)
    (case a14 => first | k_is | rfl)
    (case a15 => first | k_is | rfl)
    (case a16 => first | k_is | rfl)
    (case a17 => first | k_is | rfl)
    (case a18 => first | k_is | rfl)
    (case a19 => first | k_is | rfl)
    (case a20 => first | k_is | rfl)
    (case a21 => first | k_is | rfl)
    (case a22 => first | k_is | rfl)
    (case a23 => first | k_is | rfl)
    (case a24 => first | k_is | rfl)
    (case a25 => first | k_is | rfl)
    (case a26 => first | k_is | rfl)
    (case a27 => first | k_is | rfl)
    (case a28 => first | k_is | rfl)
    (case a29 => first | k_is | rfl)
    (case a30 => first | k_is | rfl)
    (case a31 => first | k_is | rfl)
    (case a32 => first | k_is | rfl)
    (case a33 => first | k_is | rfl)
    (case a34 => first | k_is | rfl)
    (case a35 => first | k_is | rfl)
    (case a36 => first | k_is | rfl)
    (case gW => first | k_is | rfl)
    (case gN => first | k_is | rfl)
    (case gT => first | k_is | rfl)
    (case iT => first | k_is | rfl)
    (case xT => first | k_is | rfl)
    (case l1 => first | k_is | rfl)
    (case c1 => first | k_is | rfl)
    (case k1 => first | k_is | rfl)
    (case l2 => first | k_is | rfl)
    (case c2 => first | k_is | rfl)
    (case k2 => first | k_is | rfl)
    (case l3 => first | k_is | rfl)
    (case c3 => first | k_is | rfl)
    (case k3 => first | k_is | rfl)
    (case l4 => first | k_is | rfl)
    (case c4 => first | k_is | rfl)
    (case k4 => first | k_is | rfl)
    (case l5 => first | k_is | rfl)
    (case c5 => first | k_is | rfl)
    (case k5 => first | k_is | rfl)
    (case l6 => first | k_is | rfl)
    (case c6 => first | k_is | rfl)
    (case k6 => first | k_is | rfl)
    (case l7 => first | k_is | rfl)
    (case c7 => first | k_is | rfl)
    (case k7 => first | k_is | rfl)
    (case l8 => first | k_is | rfl)
    (case c8 => first | k_is | rfl)
    (case k8 => first | k_is | rfl)
    (case l9 => first | k_is | rfl)
    (case c9 => first | k_is | rfl)
    (case k9 => first | k_is | rfl)
    (case l10 => first | k_is | rfl)
    (case c10 => first | k_is | rfl)
    (case k10 => first | k_is | rfl)
    (case l11 => first | k_is | rfl)
    (case c11 => first | k_is | rfl)
    (case k11 => first | k_is | rfl)
    (case l12 => first | k_is | rfl)
    (case c12 => first | k_is | rfl)
    (case k12 => first | k_is | rfl)
    (case l13 => first | k_is | rfl)
    (case c13 => first | k_is | rfl)
    (case k13 => first | k_is | rfl)
    (case l14 => first | k_is | rfl)
    (case c14 => first | k_is | rfl)
    (case k14 => first | k_is | rfl)
    (case l15 => first | k_is | rfl)
    (case c15 => first | k_is | rfl)
    (case k15 => first | k_is | rfl)
    (case l16 => first | k_is | rfl)
    (case c16 => first | k_is | rfl)
    (case k16 => first | k_is | rfl)
    (case l17 => first | k_is | rfl)
    (case c17 => first | k_is | rfl)
    (case k17 => first | k_is | rfl)
    (case l18 => first | k_is | rfl)
    (case c18 => first | k_is | rfl)
    (case k18 => first | k_is | rfl)
    (case l19 => first | k_is | rfl)
    (case c19 => first | k_is | rfl)
    (case k19 => first | k_is | rfl)
    (case l20 => first | k_is | rfl)
    (case c20 => first | k_is | rfl)
    (case k20 => first | k_is | rfl)
    (case l21 => first | k_is | rfl)
    (case c21 => first | k_is | rfl)
    (case k21 => first | k_is | rfl)
    (case l22 => first | k_is | rfl)
    (case c22 => first | k_is | rfl)
    (case k22 => first | k_is | rfl)
    (case l23 => first | k_is | rfl)
    (case c23 => first | k_is | rfl)
    (case k23 => first | k_is | rfl)
    (case l24 => first | k_is | rfl)
    (case c24 => first | k_is | rfl)
    (case k24 => first | k_is | rfl)
    (case l25 => first | k_is | rfl)
    (case c25 => first | k_is | rfl)
    (case k25 => first | k_is | rfl)
    (case l26 => first | k_is | rfl)
    (case c26 => first | k_is | rfl)
    (case k26 => first | k_is | rfl)
    (case l27 => first | k_is | rfl)
    (case c27 => first | k_is | rfl)
    (case k27 => first | k_is | rfl)
    (case l28 => first | k_is | rfl)
    (case c28 => first | k_is | rfl)
    (case k28 => first | k_is | rfl)
    (case l29 => first | k_is | rfl)
    (case c29 => first | k_is | rfl)
    (case k29 => first | k_is | rfl)
    (case l30 => first | k_is | rfl)
    (case c30 => first | k_is | rfl)
    (case k30 => first | k_is | rfl)
    (case l31 => first | k_is | rfl)
    (case c31 => first | k_is | rfl)
    (case k31 => first | k_is | rfl)
    (case l32 => first | k_is | rfl)
    (case c32 => first | k_is | rfl)
    (case k32 => first | k_is | rfl)
    (case l33 => first | k_is | rfl)
    (case c33 => first | k_is | rfl)
    (case k33 => first | k_is | rfl)
    (case l34 => first | k_is | rfl)
    (case c34 => first | k_is | rfl)
    (case k34 => first | k_is | rfl)
    (case l35 => first | k_is | rfl)
    (case c35 => first | k_is | rfl)
    (case k35 => first | k_is | rfl)
    (case l36 => first | k_is | rfl)
    (case c36 => first | k_is | rfl)
    (case k36 => first | k_is | rfl)
    (case l37 => first | k_is | rfl)
    (case c37 => first | k_is | rfl)
    (case k37 => first | k_is | rfl)
    (case z1 => first | k_is | rfl)
    (case z2 => first | k_is | rfl)
    (case z3 => first | k_is | rfl)
    (case z4 => first | k_is | rfl)
    (case z5 => first | k_is | rfl)
    (case z6 => first | k_is | rfl)
    (case z7 => first | k_is | rfl)
    (case z8 => first | k_is | rfl)
    (case z9 => first | k_is | rfl)
    (case z10 => first | k_is | rfl)
    (case z11 => first | k_is | rfl)
    (case z12 => first | k_is | rfl)
    (case gM => first | k_is | rfl)
    (case saT => first | k_is | rfl)
    (case tT => first | k_is | rfl)
    (case kT => first | k_is | rfl)
    (case gaW => first | k_is | rfl)
    (case ggW => first | k_is | rfl)
    (case noW => first | k_is | rfl)
    (case exW => first | k_is | rfl)
    (case tyW => first | k_is | rfl)
    (case hdW => first | k_is | rfl)
    (case icW => first | k_is | rfl)
    (case meW => first | k_is | rfl)
    (case gaN => first | k_is | rfl)
    (case ggN => first | k_is | rfl)
    (case noN => first | k_is | rfl)
    (case exN => first | k_is | rfl)
    (case tyN => first | k_is | rfl)
    (case hdN => first | k_is | rfl)
    (case icN => first | k_is | rfl)
    (case meN => first | k_is | rfl)
    (case gaT => first | k_is | rfl)
    (case ggT => first | k_is | rfl)
    (case noT => first | k_is | rfl)
    (case exT => first | k_is | rfl)
    (case tyT => first | k_is | rfl)
    (case hdT => first | k_is | rfl)
    (case icT => first | k_is | rfl)
    (case meT => first | k_is | rfl)
    (case nw => first | k_is | rfl)
    (case tw => first | k_is | rfl)
    (case tn => first | k_is | rfl)
  case hC => exact fun w => by kernel_rfl
  case hN => exact fun w => by kernel_rfl
