import PyProof.Rows.All
import Wide.All
import OpenK.AllK
import Wide.FinOn
import HandS.ForMost
import HandS.WideBits
import HandS.IsInst
import HandS.Strs
import HandS.SetFor
import HandS.Flow
import HandS.Style
import HandS.More
import HandS.Evl
import KE.SortData
import PyProof.ReprRoads
import HandS.Ends
import HandS.Star
import HandS.TupSets
import KE.KeyNested
import HandS.RevRange
import HandS.Conv
import HandS.DictComp
import HandS.TupAny
import HandS.TupMul
import HandS.List
import HandS.Base
import HandS.TryOnly
import KE.GoesMore
import KE.GoesEnum
import HandS.Iter
import HandS.Zip0
import KE.DatumOrd
import HandS.SortKw
import HandS.Deep
import HandS.Exc
import HandS.ExcOwn
import HandS.ExcInit
import HandS.ExcField
import HandS.TryMany
import HandS.Lambda
import HandS.EndTab
import KE.KNestM
import KE.KLam
import PySem.Challenge.RW_eithersums_k03_books_and_their_models
set_option Elab.async false
set_option linter.all false
set_option maxRecDepth 100000
set_option maxHeartbeats 4000000
namespace Es
open PySem PySem.Spec PyProof.Rows L2
structure FnG (P : Program) (w : World) (K : PySem.W.Frag) (mg : Str → Option Value) (base : Heap)
    (k : Nat) (f : Addr) (fd : FuncData) (ps : List Str) (sp : Sp) : Prop where
  lenG : ∀ {vs H Q E}, sp vs H Q E → vs.length = ps.length
  runG : ∀ {B : Around} {out : List Env} {t : Shared} {G : Hp} {ar : Args} {xs : List Value} {ys : List V} {R : VK} {E : XK},
    Room k B → B.guards = some [] → Env0 P w K mg base B out t G → BindsTo t fd ar (ps.zip xs) → Vals ys xs → sp ys G R E →
    codeAny (model P w) B (.call (.ref f) ar) (CR CX0 out P w G t R E) t
section
variable {P : Program} {w : World} {K : PySem.W.Frag} {mg : Str → Option Value} {base : Heap}
theorem FnG.up {j k : Nat} {f : Addr} {fd : FuncData} {ps : List Str} {sp : Sp} (F : FnG P w K mg base j f fd ps sp) (h : j ≤ k) :
    FnG P w K mg base k f fd ps sp :=
  ⟨F.lenG, fun hr hg he hb hv hs => F.runG (hr.mono h) hg he hb hv hs⟩
theorem fng_of {k : Nat} {f : Addr} {nm ql : Str} {pr : Arguments} {bd : List Stmt} {sc : Scope} {dV kV doc pm cdv ct oc : Value}
    {an od : Option Addr} {osl : Array (Option Value)} {N ps : List Str} {sp : Sp}
    (look : K.lookup f = some ⟨oc, od, .func (PySem.W.fnOf nm ql pr bd sc dV kV doc pm an cdv ct), osl⟩)
    (cod : PySem.W.codeIn K cdv ql = true) (S : FnScope N ps sc)
    (ln : ∀ {vs H Q E}, sp vs H Q E → vs.length = ps.length)
    (body : ∀ (B : Around) (out : List Env) (t : Shared) (G : Hp) (ys : List V) (R : VK) (E : XK),
      Room k (B.deeper (envOfC ql sc t.heap.objs.size f cdv)) → B.guards = some [] → sp ys G R E →
      ∃ r, PSs (cxOf CX0 P w K mg base N ql sc f cdv B out t G E) bd r ∧ r { nx := fun _ G' => R .non G', rt := R } (start N ys) G) :
    FnG P w K mg base (k + 1) f (PySem.W.fnOf nm ql pr bd sc dV kV doc pm an cdv ct) ps sp := by
  refine ⟨ln, ?_⟩
  intro B out t G ar xs ys R E room gd env0 bind rel want
  have lens := ln want
  have keepB : ∀ b o, base.get? b = some o → t.heap.get? b = some o := fun b o e => (env0.bs b o e).1
  have inK : K.In t.heap := env0.mod.kin.keeps keepB
  have nolim : t.heap.NoLimit := env0.mod.nolimit.keeps keepB
  refine codeAny_call_function room.depth (inK _ _ look) rfl S.co S.gen rfl (PySem.W.codeRec_of inK cod) (bind _ _ _ _ ?_)
  refine wpAny_newFunctionEnv_cells S.kind (fun p hp => ?_) (fun ev hev t1 st => ?_)
  · obtain ⟨n, v⟩ := p
    cases S.par n (List.of_mem_zip hp).1 with
    | inl z => exact Or.inl z
    | inr z => exact Or.inr ⟨z, PySem.W.cellsFrom_some _ _ _ (Or.inl z)⟩
  · subst hev
    refine ⟨nolim.keeps st.toInCall.keep, codeAny_func ?_⟩
    obtain ⟨r, hr1, hr2⟩ := body B out t G ys R E (room.deeper _) gd want
    have J0 : Inv (cxOf CX0 P w K mg base N ql sc f cdv B out t G E) [] (start N ys) G t1 := inv_start S room.hd env0 lens rel st
    refine wpAny_mono (hr1.run [] t1 (start N ys) G _ J0 hr2) ?_ (fun e t2 h2 => h2)
    intro fl t2 h2
    have done : ∀ {σ2 : L2.St} {G2 : Hp} {v : V} {u : Value}, Inv (cxOf CX0 P w K mg base N ql sc f cdv B out t G E) [] σ2 G2 t2 → RelV v u → R v G2 → CE out P w G t R u t2 := by
      intro σ2 G2 v u J rv q
      exact ⟨v, G2, J.os, J.bare, J.base, J.hok, rv, q⟩
    cases fl with
    | next => obtain ⟨σ2, G2, J, q⟩ := h2; exact done (v := V.non) (u := Value.none) J rfl q
    | ret u => obtain ⟨v, σ2, G2, J, rv, q⟩ := h2; exact done J rv q
    | brk => obtain ⟨_, _, _, q⟩ := h2; exact q.elim
    | cont => obtain ⟨_, _, _, q⟩ := h2; exact q.elim
theorem okG {x qual : Str} {st : Stmt} {f : Addr} {fd : FuncData} {N ps : List Str} {k : Nat} {sp : Sp} (F : Fun K x qual st f fd) (S : FnScope N ps (defScope st))
    (ln : ∀ {vs H Q E}, sp vs H Q E → vs.length = ps.length)
    (body : ∀ (cdv : Value) (B : Around) (out : List Env) (t : Shared) (G : Hp) (ys : List V) (R : VK) (E : XK),
      Room k (B.deeper (envOfC qual (defScope st) t.heap.objs.size f cdv)) → (B.deeper (envOfC qual (defScope st) t.heap.objs.size f cdv)).guards = some [] → sp ys G R E →
      ∃ r, PSs (cxOf CX0 P w K mg base N qual (defScope st) f cdv B out t G E).nox (defBody st) r ∧ r { nx := fun _ G' => R .non G', rt := R } (start N ys) G) :
    FnG P w K mg base (k + 1) f fd ps sp := by
  obtain ⟨oc, od, kV, doc, pm, an, cdv, ct, osl, rfl, lk, hcd⟩ := F.ex
  refine fng_of lk hcd S ln ?_
  intro B out t G ys R E hr hg want
  obtain ⟨r, h1, h2⟩ := body cdv B out t G ys R E hr hg want
  exact ⟨r, h1.nox, h2⟩
end
section
variable {X : Cx} {k : Nat} {f : Addr} {fd : FuncData} {ps : List Str} {sp : Sp} {x : Str} {p pos : Pos} {e : Expr} {es : List Expr} {t : TA}
theorem runG_call {pins : List (Addr × Obj)} {σ : L2.St} {H : Hp} {s : Shared} {Q : VK} {us : List Value} {vs : List V} (F : FnG X.prog X.w X.K X.mg X.base k f fd ps sp)
    (hr : Room k X.A) (hg : X.A.guards = some []) (hb : Binds X.K fd ps []) (I : Inv X pins σ H s) (r : Vals vs us) (h : sp vs H Q E0) :
    wpAny (model X.prog X.w) X.A (call (.ref f) us) (EP X pins σ Q) X.xe s := by
  have l1 : (us ++ []).length = ps.length := by
    rw [List.append_nil, ← r.length]
    exact F.lenG h
  have b1 := hb s us I.kIn l1
  rw [List.append_nil] at b1
  refine wpAny_call (codeAny_mono (F.runG hr hg I.env0 b1 r h) ?_)
  intro z s' hz
  cases z with
  | error e => exact False.elim hz
  | ok fl =>
    cases fl with
    | ret u => exact I.after hz
    | next => exact False.elim hz
    | brk => exact False.elim hz
    | cont => exact False.elim hz
theorem pe_callG (F : FnG X.prog X.w X.K X.mg X.base k f fd ps sp) (hr : Room k X.A) (hg : X.A.guards = some []) (hgl : Gl X x) (hm : X.mg x = some (.ref f)) (hk : PySem.W.keepIn X.K (.ref f) = true)
    (hb : Binds X.K fd ps []) (ha : PA X (e :: es) t) (hd : (x == ("__debug__" : Str)) = false := by decide)
    (h1 : starEach (e :: es) X.env = (false, eval e X.env) :: starEach es X.env := by rfl) (h2 : (backTo pos (starEach es X.env)).any (·.1) = false := by rfl) :
    PE X (.Call (.Name x p) (e :: es) [] pos) (tCall sp [] E0 t) := by
  refine ⟨fun pins s σ H Q I h => ?_⟩
  refine wpAny_Call_Name_kw (ld_glob I hgl hm ?_ hd)
  refine PySem.W.callWith_K (h₀ := X.base) I.ok.mod.kin hk ?_ h1 h2
  refine thn (ha.run pos pins s σ H _ I h) ?_
  rintro us s1 ⟨vs, H1, I1, r, q⟩
  refine ⟨I1.kIn, ?_⟩
  have q : sp (vs ++ []) H1 Q E0 := q
  rw [List.append_nil] at q
  exact runG_call F hr hg hb I1 r q
end
end Es
set_option Elab.async false
set_option linter.all false
set_option maxRecDepth 100000
set_option maxHeartbeats 4000000
namespace Es
open PySem PySem.Spec PyProof.Rows L2
def Callee (X : Cx) (k : Nat) (x : Str) (ps : List Str) (sp : Sp) : Prop :=
  ∃ (f : Addr) (fd : FuncData), FnG X.prog X.w X.K X.mg X.base k f fd ps sp ∧ X.mg x = some (.ref f) ∧ PySem.W.keepIn X.K (.ref f) = true ∧ Binds X.K fd ps []
def CalleeOf (P : Program) (w : World) (K : PySem.W.Frag) (mg : Str → Option Value) (base : Heap) (k : Nat) (x : Str) (ps : List Str) (sp : Sp) : Prop :=
  ∃ (f : Addr) (fd : FuncData), FnG P w K mg base k f fd ps sp ∧ mg x = some (.ref f) ∧ PySem.W.keepIn K (.ref f) = true ∧ Binds K fd ps []
section
variable {X : Cx} {k : Nat} {ps : List Str} {sp : Sp} {x : Str} {p pos : Pos} {e : Expr} {es : List Expr} {t : TA}
theorem pe_callC (c : CalleeOf X.prog X.w X.K X.mg X.base k x ps sp) (hr : Room k X.A) (hg : X.A.guards = some []) (hgl : Gl X x) (ha : PA X (e :: es) t) (hd : (x == ("__debug__" : Str)) = false := by decide)
    (h1 : starEach (e :: es) X.env = (false, eval e X.env) :: starEach es X.env := by rfl) (h2 : (backTo pos (starEach es X.env)).any (·.1) = false := by rfl) :
    PE X (.Call (.Name x p) (e :: es) [] pos) (tCall sp [] E0 t) := by
  obtain ⟨f, fd, F, hm, hk, hb⟩ := c
  exact pe_callG F hr hg hgl hm hk hb ha hd h1 h2
end
mutual
def nice : PyData → Bool
  | .none => true
  | .bool _ => true
  | .int i => decide (i.natAbs < 10 ^ 12)
  | .str x => PyData.strOk x && x.cps.toList.all fun c => decide (c < 16 ^ 8)
  | .list xs => niceAll xs
  | .tuple xs => niceAll xs
  | .dict _ => false
def niceAll : List PyData → Bool
  | [] => true
  | x :: xs => nice x && niceAll xs
end
theorem niceAll_iff : ∀ {xs : List PyData}, niceAll xs = true ↔ ∀ x ∈ xs, nice x = true
  | [] => by simp [niceAll]
  | x :: xs => by simp [niceAll, niceAll_iff (xs := xs)]
theorem log_nice {i : Int} (h : i.natAbs < 10 ^ 12) : i.natAbs.log2 < 1920 := by
  by_cases h0 : i.natAbs = 0
  · rw [h0]
    decide
  · have : i.natAbs.log2 < 40 := (Nat.log2_lt h0).mpr (Nat.lt_of_lt_of_le h (by decide))
    omega
mutual
theorem nice_facts : ∀ d : PyData, nice d = true → d.canLay0 = true ∧ d.showable = true ∧ d.hasDict = false ∧ d.leavesShort 13 = true
  | .none, _ => by decide
  | .bool b, _ => by cases b <;> decide
  | .int i, h => by
    have h : i.natAbs < 10 ^ 12 := of_decide_eq_true h
    refine ⟨?_, decide_eq_true (log_nice h), rfl, decide_eq_true (PyData.shown_int_le h)⟩
    simp [PyData.canLay0]
  | .str x, h => by
    have h : (PyData.strOk x && x.cps.toList.all fun c => decide (c < 16 ^ 8)) = true := h
    rw [Bool.and_eq_true] at h
    exact ⟨by simpa [PyData.canLay0] using h.1, rfl, rfl, h.2⟩
  | .list xs, h => by
    obtain ⟨a, b, c, d⟩ := niceAll_facts xs h
    exact ⟨by simpa [PyData.canLay0] using a, b, c, d⟩
  | .tuple xs, h => by
    obtain ⟨a, b, c, d⟩ := niceAll_facts xs h
    exact ⟨by simpa [PyData.canLay0] using a, b, c, d⟩
  | .dict _, h => by cases h
theorem niceAll_facts : ∀ xs : List PyData, niceAll xs = true → PyData.canLayAll0 xs = true ∧ PyData.showableAll xs = true ∧ PyData.hasDictAll xs = false ∧ PyData.leavesShortAll 13 xs = true
  | [], _ => by decide
  | x :: xs, h => by
    have h : (nice x && niceAll xs) = true := h
    rw [Bool.and_eq_true] at h
    obtain ⟨a, b, c, d⟩ := nice_facts x h.1
    obtain ⟨a2, b2, c2, d2⟩ := niceAll_facts xs h.2
    refine ⟨by simp [PyData.canLayAll0, a, a2], by simp [PyData.showableAll, b, b2], by simp [PyData.hasDictAll, c, c2], by simp [PyData.leavesShortAll, d, d2]⟩
end
theorem nice_shaped {d : PyData} (h : nice d = true) (hd : d.depth ≤ 40) : SeqAt.shaped d = true := by
  unfold SeqAt.shaped
  rw [(nice_facts d h).1, Bool.true_and]
  exact decide_eq_true (by omega)
section
variable {X : Cx}
def rAtL (K : PySem.W.Frag) : V → V → Hp → VK → Prop := fun x y H Q => ∃ (p : Addr) (xs : List V) (i : Nat) (v : V), x = .ref p ∧ y = .int (i : Int) ∧ SqL K H p xs ∧ xs[i]? = some v ∧ Q v H
theorem get_list : PGet X (rAtL X.K) := by
  intro pins s σ H o i ov iv Q I ro ri h
  obtain ⟨p, xs, j, v, rfl, rfl, hs, ha, q⟩ := h
  cases ro
  obtain ⟨t, rfl⟩ := ri
  obtain ⟨its, r, pl, hz⟩ := I.list hs
  obtain ⟨u, hu, ru⟩ := r.get ha
  have hj : j < its.length := (List.getElem?_eq_some_iff.mp hu).1
  have hl := r.length
  have hn := line63
  refine wpAny_getItem_list (x := u) pl.isList (by omega) ?_ (by simpa using hu) ⟨v, H, I, ru, q⟩
  omega
def rReprN (K : PySem.W.Frag) : List V → Hp → VK → Prop := fun xs H Q =>
  ∃ v d, xs = [v] ∧ Dp K H v d ∧ nice d = true ∧ d.depth ≤ 40 ∧ d.weight ≤ 2 ^ 20 ∧ Q (.str d.shown) H
theorem cr_repr (hg : X.A.guards = some []) (hu : X.A.units + 64 < cLine) : CallR X (.builtin "repr") (rReprN X.K) := by
  intro pins s σ H xs us Q I r h
  obtain ⟨v, d, rfl, hd, ni, dp, wt, q⟩ := h
  obtain ⟨u, rfl, ru⟩ := vals1 r
  obtain ⟨c1, c2, c3, c4⟩ := nice_facts d ni
  have fit : d.shown.length ≤ sizeLine := PyData.shown_fits (B := 13) (by decide) (by decide) c4 wt
  obtain ⟨as, rd⟩ := Dp.reads I d v u hd ru
  have endIt : ∀ (h' : Heap) (w tk : Tok), (∀ b o, s.heap.get? b = some o → h'.get? b = some o) → EP X pins σ Q (.str d.shown w) { s with heap := h', toks := tk } :=
    fun h' w tk k => ⟨.str d.shown, H, I.kept k, ⟨w, rfl⟩, q⟩
  cases hd with
  | non =>
    cases ru
    refine PySem.P.repr_of_none ?_
    have := endIt s.heap s.toks (s.toks + 1) fun _ _ e => e
    rwa [PyData.shown_none] at this
  | bl b =>
    cases ru
    refine PySem.P.repr_of_bool ?_
    have := endIt s.heap s.toks (s.toks + 1) fun _ _ e => e
    rwa [PyData.shown_bool] at this
  | int i =>
    obtain ⟨t, rfl⟩ := ru
    refine PySem.P.repr_of_int (log_nice (of_decide_eq_true ni)) ?_
    have := endIt s.heap s.toks (s.toks + 1) fun _ _ e => e
    rwa [PyData.shown_int] at this
  | str x =>
    obtain ⟨t, rfl⟩ := ru
    refine PySem.P.repr_of_str ?_ (by rw [← PyData.shown_str]; exact fit)
    have := endIt s.heap s.toks (s.toks + 1) fun _ _ e => e
    rwa [PyData.shown_str] at this
  | lst h1 h2 =>
    cases ru
    exact repr_of_reads' rd c2 (PyData.noDict_hsm c3) hg (by omega) (fun _ _ e => e) endIt fit
  | tup h1 h2 =>
    cases ru
    exact repr_of_reads' rd c2 (PyData.noDict_hsm c3) hg (by omega) (fun _ _ e => e) endIt fit
def rSetI (K : PySem.W.Frag) (w : World) : List V → Hp → VK → Prop := fun xs H Q =>
  ∃ (a : Addr) (ns : List Int), xs = [.ref a] ∧ SqT K H a (ns.map V.int) ∧ ns.length ≤ 1000 ∧
    ∀ p c, H p = none → c ≤ ns.length → Q (.ref p) (upd H p (SetO w p (fun j => decide (j ∈ ns)) c))
theorem cr_setSeq (hc : X.calm = true) : CallR X (.type "set") (rSetI X.K X.w) := by
  intro pins s σ H xs us Q I r h
  obtain ⟨a, ns, rfl, ht, hl, q⟩ := h
  rw [Vals.ref1 r]
  obtain ⟨its, rv, pt, hz⟩ := I.tuple ht
  have hi : IntsAre its.toArray.toList ns := ints_of_vals rv
  refine call_set_tupI ns (I.ok.hd hc) (show s.heap.IsTuple a its.toArray from pt) hi (by unfold scanBound; omega) ?_
  intro h' tk c R1 hcn kp
  refine ⟨.ref s.heap.objs.size, upd H s.heap.objs.size (SetO X.w s.heap.objs.size (fun j => decide (j ∈ ns)) c), ?_, rfl, q _ c (I.hok.fresh (Nat.le_refl _)) hcn⟩
  exact I.laid (t' := tk) kp (Nat.le_refl _) (setO_new R1)
def rSortedData (K : PySem.W.Frag) : List V → Hp → VK → Prop := fun xs H Q =>
  ∃ (a : Addr) (bs : List (V × PyData)), xs = [.ref a] ∧ SqL K H a (bs.map (·.1)) ∧ (∀ b ∈ bs, Dp K H b.1 b.2) ∧ PySem.W.AllAlike (bs.map (·.2)) ∧ PySem.W.Sortable (bs.map (·.2)) ∧ (∀ b ∈ bs, b.2.depth ≤ 40) ∧
    ∀ p, H p = none → Q (.ref p) (upd H p (.lst ((bs.mergeSort (PySem.W.dataLe false (·.2))).map (·.1))))
theorem each_of {K : PySem.W.Frag} {H : Hp} {pins : List (Addr × Obj)} {σ : L2.St} {s : Shared} (I : Inv X pins σ H s) : ∀ (bs : List (V × PyData)) (its : List Value), Vals (bs.map (·.1)) its → (∀ b ∈ bs, Dp X.K H b.1 b.2) →
    PySem.W.EachIs (fun u (b : V × PyData) => RelV b.1 u) its bs ∧ PySem.W.EachIs (fun u (b : V × PyData) => ∃ as, Reads s.heap u b.2 as) its bs
  | [], _, r, _ => by
    cases r
    exact ⟨.nil, .nil⟩
  | b :: bs, _, r, h => by
    cases r with
    | cons r1 r2 =>
      obtain ⟨e1, e2⟩ := each_of (K := K) I bs _ r2 fun x hx => h x (List.mem_cons_of_mem _ hx)
      exact ⟨.cons r1 e1, .cons (Dp.reads I _ _ _ (h b List.mem_cons_self) r1) e2⟩
theorem vals_each : ∀ {out : List Value} {bs : List (V × PyData)}, PySem.W.EachIs (fun u (b : V × PyData) => RelV b.1 u) out bs → Vals (bs.map (·.1)) out
  | _, _, .nil => .nil
  | _, _, .cons r t => .cons r (vals_each t)
theorem cr_sortedData (hu : X.A.units + 64 < cLine) : CallR X (.builtin "sorted") (rSortedData X.K) := by
  intro pins s σ H xs us Q I r h
  obtain ⟨a, bs, rfl, hs, hd, al, so, dp, q⟩ := h
  rw [Vals.ref1 r]
  obtain ⟨its, rv, pl, hz⟩ := I.list hs
  obtain ⟨e1, e2⟩ := each_of (K := X.K) I bs its rv hd
  have hz2 : bs.length ≤ sizeLine := by
    rw [List.length_map] at hz
    exact hz
  refine PySem.W.sorted_data pl.isList e1 e2 al so hz2 (fun b hb => by have := dp b hb; omega) ?_
  intro out ho eo
  have ro := vals_each eo
  obtain ⟨c, hc⟩ := sortedAll_at s.heap its out.toArray
  refine ⟨.ref (s.heap.objs.size + 1), upd H (s.heap.objs.size + 1) (.lst ((bs.mergeSort (PySem.W.dataLe false (·.2))).map (·.1))), ?_, rfl, q _ (I.hok.fresh (Nat.le_succ _))⟩
  refine I.laid (t' := s.toks) (fun _ _ => sortedAll_old) (Nat.le_succ _) ⟨?_, out, c, ro, hc⟩
  rw [List.length_map, List.length_mergeSort]
  exact hz2
end
end Es
set_option Elab.async false
set_option linter.all false
set_option maxRecDepth 100000
set_option maxHeartbeats 4000000
namespace Es
open PySem PySem.Spec PyProof.Rows L2
theorem lawG_at {P : Program} {w : World} {K : PySem.W.Frag} {mg mb : Str → Option Value} {k : Nat} {fa a : Addr} {fd : FuncData} {x : Str} {sp : Sp} {t : Shared} {xs : List Value}
    (inK : K.In t.heap) (gns : t.heap.Ns mainGlobals mg) (bns : t.heap.Ns builtinsNs mb) (bst : ∀ x : Str, x ≠ "__name__" → mb x = bootBuiltins x) (lim : t.heap.NoLimit) (gen : t.gens = #[])
    (scr : t.heap.get? a = some { cls := .type "list", data := .seq xs.toArray }) (room : Room k callerA)
    (F : ∀ base : Heap, K.In base → base.Ns mainGlobals mg → FnG P w K mg base k fa fd [x] sp) (bind : ∀ (s : Shared) (u : Value), BindsTo s fd ⟨[u], []⟩ [(x, u)])
    (H : Hp) (only : Only H) (held : HOk P w H t.heap) (atA : ∀ b o, H b = some o → b = a) (notK : ∀ o, H a = some o → K.lookup a = none)
    (want : sp [.ref a] H (fun v _ => v = .bl true) E0) :
    codeAny (model P w) callerA (.call (.ref fa) ⟨[.ref a], []⟩) (fun r s' => r = .ok (.ret (.bool true)) ∧ PySem.OldK t.heap s'.heap ∧ s'.os = t.os ∧ AllBare s'.gens) t := by
  have seen : ∀ {b : Addr} {o : Obj}, t.heap.get? b = some o → (b = a → False) → (hidT t.heap H).get? b = some o := by
    intro b o e nb
    refine hidT_get e ?_
    cases hb : H b with
    | none => rfl
    | some u => exact (nb (atA b u hb)).elim
  have dictSeen : ∀ {b : Addr} {m : Str → Option Value}, t.heap.Ns b m → (hidT t.heap H).Ns b m := by
    rintro b m ⟨o, es, ep, e, d, more⟩
    refine ⟨o, es, ep, seen e ?_, d, more⟩
    rintro rfl
    rw [scr] at e
    cases e
    cases d
  have inB : K.In (hidT t.heap H) := by
    intro b o e
    cases hb : H b with
    | none => exact hidT_get (inK b o e) hb
    | some u =>
      have ab := atA b u hb
      subst ab
      rw [notK u hb] at e
      cases e
  obtain ⟨mc, lm1, lm2⟩ := lim
  have md : Mod K mg (hidT t.heap H) := ⟨inB, dictSeen gns, ⟨mb, dictSeen bns, bst⟩, ⟨mc, dictSeen lm1, lm2⟩⟩
  have env : Env0 P w K mg (hidT t.heap H) callerA [] t H :=
    ⟨rfl, md, fun _ _ e => of_hidT e, Nat.le_of_eq (hidT_size _ _), trivial, (fun b hb => by cases hb), held, .of_eq gen⟩
  have run := (F _ inB (dictSeen gns)).runG (out := []) (t := t) (G := H) (ar := ⟨[.ref a], []⟩) (xs := [.ref a]) (ys := [.ref a]) room rfl env (bind t (.ref a)) (.cons rfl .nil) want
  refine codeAny_mono run ?_
  intro r s' h
  cases r with
  | error e => exact False.elim h
  | ok fl =>
    cases fl with
    | next => exact False.elim h
    | brk => exact False.elim h
    | cont => exact False.elim h
    | ret u =>
      obtain ⟨v, H', os, bare, un, held', rel, q⟩ := h
      have q : v = .bl true := q
      subst q
      have rel : u = Value.bool true := rel
      subst rel
      refine ⟨rfl, PySem.OldK.of_keep ?_, os, bare⟩
      intro b o e
      cases hb : H b with
      | none => exact un.keep b o e hb (fun z => by cases z) (fun z => by cases z)
      | some y =>
        rcases only b with z | ⟨ob, ls, z⟩
        · rw [hb] at z
          cases z
        · obtain ⟨g1, _⟩ := held b _ z
          obtain ⟨g2, _⟩ := held' b _ (un.frzs b ob _ z)
          rw [e] at g1
          cases g1
          exact g2
theorem walkG {l : PySem.W.OpenLaw} {n k : Nat} {q : Program} {loose : List Str} {XP : (Str → Option Value) → Heap → Prop} {YP : World → Heap → Prop} {d : PySem.DefRec} {K : Params → PySem.W.Frag} {sp : PySem.W.Frag → Sp} {x : Str}
    (hn : l.most = some n) (hn2 : n ≤ sizeLine) (hdf : d.params.defaults = []) (hr : Room k callerA)
    (hY : ∀ (w : World) (h : Heap), YP w h → (K w.params).In h)
    (F : ∀ (w : World) (mg : Str → Option Value) (fa : Addr) (h : Heap), (K w.params).In h → h.Ns mainGlobals mg → mg d.name = some (.ref fa) →
      ∃ fd : FuncData, (∀ (s : Shared) (u : Value), BindsTo s fd ⟨[u], []⟩ [(x, u)]) ∧
        ∀ base : Heap, (K w.params).In base → base.Ns mainGlobals mg → FnG l.prog w (K w.params) mg base k fa fd [x] (sp (K w.params)))
    (hsp : ∀ (K : PySem.W.Frag) (H : Hp) (a : Addr) (ns : List Int), ns.length ≤ n → SqL K H a (ns.map V.int) → sp K [.ref a] H (fun v _ => v = .bl true) E0) :
    PySem.W.WalkO q loose XP YP l.row.toRowW d [] (fun f vs => PySem.call f vs) := by
  refine Att.attach_call hn hdf ?_
  intro w s₀ t mg mb fa o pm cd doc a xs ns G Y ho hd hcd hmg scr hints len gen
  have inK := hY w _ Y
  obtain ⟨fd, bind, FF⟩ := F w mg fa _ inK G.T.g hmg
  have vals := vals_ints hints
  have lens := hints.length
  have lenX : xs.length ≤ sizeLine := by omega
  cases hk : (K w.params).lookup a with
  | some ob =>
    have e := inK a ob hk
    rw [scr] at e
    cases e
    refine lawG_at inK G.T.g G.T.b G.T.builtins G.T.nolimit gen scr hr FF bind (fun _ => none) (fun _ => .inl rfl) (fun _ _ z => by cases z) (fun _ _ z => by cases z) (fun _ z => by cases z) ?_
    refine hsp _ _ a ns len (.inr ⟨_, xs.toArray, _, hk, rfl, rfl, rfl, ?_, ?_⟩)
    · rw [List.size_toArray]
      exact lenX
    · simpa using vals
  | none =>
    refine lawG_at inK G.T.g G.T.b G.T.builtins G.T.nolimit gen scr hr FF bind
      (fun b => if b = a then some (.frz { cls := .type "list", data := .seq xs.toArray } (.lst (ns.map V.int))) else none) ?_ ?_ ?_ (fun _ _ => hk) ?_
    · intro b
      by_cases hb : b = a
      · exact .inr ⟨_, _, if_pos hb⟩
      · exact .inl (if_neg hb)
    · intro b u z
      by_cases hb : b = a
      · have z2 := (if_pos hb).symm.trans z
        cases z2
        subst hb
        refine ⟨scr, ?_, xs, _, vals, scr⟩
        rw [List.length_map]
        omega
      · have z2 := (if_neg hb).symm.trans z
        cases z2
    · intro b u z
      by_cases hb : b = a
      · exact hb
      · have z2 := (if_neg hb).symm.trans z
        cases z2
    · exact hsp _ _ a ns len (.inl (.inr ⟨_, if_pos rfl⟩))
end Es
namespace Es
def bts (m : Nat) : List Nat := (List.range 63).filter fun u => m.testBit u
theorem mem_bts {m u : Nat} : u ∈ bts m ↔ u < 63 ∧ m.testBit u = true := by simp [bts]
theorem bts_lt (m : Nat) : (bts m).Pairwise (· < ·) := List.Pairwise.filter _ List.pairwise_lt_range
theorem bts_len (m : Nat) : (bts m).length ≤ 63 := by
  have := List.length_filter_le (fun u => m.testBit u) (List.range 63)
  simpa [bts] using this
theorem bts_zero : bts 0 = [] := by simp [bts]
theorem bit_ge {m u : Nat} (h : m < 2 ^ 63) (hu : 63 ≤ u) : m.testBit u = false :=
  Nat.testBit_lt_two_pow (Nat.lt_of_lt_of_le h (Nat.pow_le_pow_right (by decide) hu))
theorem mask_ext {a b : Nat} (ha : a < 2 ^ 63) (hb : b < 2 ^ 63) (h : ∀ u, u < 63 → a.testBit u = b.testBit u) : a = b := by
  refine Nat.eq_of_testBit_eq fun u => ?_
  by_cases hu : u < 63
  · exact h u hu
  · rw [bit_ge ha (by omega), bit_ge hb (by omega)]
theorem bts_inj {a b : Nat} (ha : a < 2 ^ 63) (hb : b < 2 ^ 63) (h : bts a = bts b) : a = b := by
  refine mask_ext ha hb fun u hu => ?_
  have h1 : u ∈ bts a ↔ u ∈ bts b := by rw [h]
  rw [mem_bts, mem_bts] at h1
  cases x : a.testBit u <;> cases y : b.testBit u <;> simp_all
theorem asc_unique : ∀ {a b : List Nat}, a.Pairwise (· < ·) → b.Pairwise (· < ·) → (∀ u, u ∈ a ↔ u ∈ b) → a = b
  | [], [], _, _, _ => rfl
  | [], y :: b, _, _, h => by have := (h y).mpr List.mem_cons_self; cases this
  | x :: a, [], _, _, h => by have := (h x).mp List.mem_cons_self; cases this
  | x :: a, y :: b, ha, hb, h => by
    obtain ⟨a1, a2⟩ := List.pairwise_cons.mp ha
    obtain ⟨b1, b2⟩ := List.pairwise_cons.mp hb
    have e : x = y := by
      rcases List.mem_cons.mp ((h x).mp List.mem_cons_self) with e | m
      · exact e
      · rcases List.mem_cons.mp ((h y).mpr List.mem_cons_self) with e | m2
        · exact e.symm
        · have := a1 _ m2; have := b1 _ m; omega
    subst e
    refine congrArg (x :: ·) (asc_unique a2 b2 fun u => ?_)
    constructor
    · intro m
      rcases List.mem_cons.mp ((h u).mp (List.mem_cons_of_mem _ m)) with e | m2
      · have := a1 _ m; omega
      · exact m2
    · intro m
      rcases List.mem_cons.mp ((h u).mpr (List.mem_cons_of_mem _ m)) with e | m2
      · have := b1 _ m; omega
      · exact m2
theorem bts_of {l : List Nat} {m : Nat} (hl : l.Pairwise (· < ·)) (h : ∀ u, u ∈ l ↔ u < 63 ∧ m.testBit u = true) : l = bts m :=
  asc_unique hl (bts_lt m) fun u => by rw [h, mem_bts]
theorem bts_nil {m : Nat} (hm : m < 2 ^ 63) (h : bts m = []) : m = 0 :=
  bts_inj hm (by decide) (by rw [h, bts_zero])
theorem xor_lt {a b : Nat} (ha : a < 2 ^ 63) (hb : b < 2 ^ 63) : a ^^^ b < 2 ^ 63 := Nat.xor_lt_two_pow ha hb
def low (m : Nat) : Option Nat := (bts m).head?
theorem low_iff {m h : Nat} : low m = some h ↔ h < 63 ∧ m.testBit h = true ∧ ∀ j, j < h → m.testBit j = false := by
  unfold low
  cases e : bts m with
  | nil =>
    constructor
    · intro q; cases q
    · rintro ⟨h1, h2, _⟩
      have : h ∈ bts m := mem_bts.mpr ⟨h1, h2⟩
      rw [e] at this; cases this
  | cons x r =>
    have hx : x ∈ bts m := by rw [e]; exact List.mem_cons_self
    have hp := bts_lt m
    rw [e] at hp
    obtain ⟨p1, _⟩ := List.pairwise_cons.mp hp
    obtain ⟨x1, x2⟩ := mem_bts.mp hx
    have least : ∀ j, j < x → m.testBit j = false := by
      intro j hj
      cases q : m.testBit j with
      | false => rfl
      | true =>
        have : j ∈ bts m := mem_bts.mpr ⟨by omega, q⟩
        rw [e] at this
        rcases List.mem_cons.mp this with z | z
        · omega
        · have := p1 _ z; omega
    constructor
    · intro q
      have q : x = h := Option.some.inj q
      subst q
      exact ⟨x1, x2, least⟩
    · rintro ⟨h1, h2, h3⟩
      show some x = some h
      have : ¬ x < h := fun z => by have := h3 x z; rw [x2] at this; cases this
      have : ¬ h < x := fun z => by have := least h z; rw [h2] at this; cases this
      congr 1; omega
theorem low_none {m : Nat} (hm : m < 2 ^ 63) : low m = none ↔ m = 0 := by
  constructor
  · intro h
    exact bts_nil hm (List.head?_eq_none_iff.mp h)
  · rintro rfl
    rfl
theorem low_some {m : Nat} (hm : m < 2 ^ 63) (h : m ≠ 0) : ∃ k, low m = some k := by
  cases e : low m with
  | none => exact absurd ((low_none hm).mp e) h
  | some k => exact ⟨k, rfl⟩
theorem low_xor {a b h k : Nat} (ha : low a = some h) (hb : low b = some k) (hk : h < k) : low (a ^^^ b) = some h := by
  obtain ⟨a1, a2, a3⟩ := low_iff.mp ha
  obtain ⟨b1, b2, b3⟩ := low_iff.mp hb
  refine low_iff.mpr ⟨a1, ?_, fun j hj => ?_⟩
  · rw [Nat.testBit_xor, a2, b3 h hk]; rfl
  · rw [Nat.testBit_xor, a3 j hj, b3 j (by omega)]; rfl
theorem low_xor_same {a b h k : Nat} (ha : low a = some h) (hb : low b = some h) (hk : low (a ^^^ b) = some k) : h < k := by
  obtain ⟨a1, a2, a3⟩ := low_iff.mp ha
  obtain ⟨b1, b2, b3⟩ := low_iff.mp hb
  obtain ⟨k1, k2, k3⟩ := low_iff.mp hk
  rw [Nat.testBit_xor] at k2
  by_cases e : k = h
  · subst e
    rw [a2, b2] at k2
    cases k2
  · have : ¬ k < h := fun z => by
      rw [a3 k z, b3 k z] at k2
      cases k2
    omega
def Spn : List Nat → Nat → Prop
  | [], x => x = 0
  | m :: ms, x => Spn ms x ∨ Spn ms (x ^^^ m)
theorem xx (a b : Nat) : a ^^^ b ^^^ b = a := by rw [Nat.xor_assoc, Nat.xor_self, Nat.xor_zero]
theorem Spn.zero : ∀ ms, Spn ms 0
  | [] => rfl
  | _ :: ms => .inl (Spn.zero ms)
theorem Spn.xor : ∀ {ms : List Nat} {x y : Nat}, Spn ms x → Spn ms y → Spn ms (x ^^^ y)
  | [], x, y, hx, hy => by
    have hx : x = 0 := hx
    have hy : y = 0 := hy
    subst hx; subst hy; rfl
  | m :: ms, x, y, hx, hy => by
    rcases hx with hx | hx <;> rcases hy with hy | hy
    · exact .inl (Spn.xor hx hy)
    · refine .inr ?_
      rw [Nat.xor_assoc]
      exact Spn.xor hx hy
    · refine .inr ?_
      rw [Nat.xor_assoc, Nat.xor_comm y m, ← Nat.xor_assoc]
      exact Spn.xor hx hy
    · refine .inl ?_
      have := Spn.xor hx hy
      rwa [Nat.xor_comm y m, ← Nat.xor_assoc, Nat.xor_assoc x m m, Nat.xor_self, Nat.xor_zero] at this
theorem Spn.mem : ∀ {ms : List Nat} {x : Nat}, x ∈ ms → Spn ms x
  | m :: ms, x, h => by
    rcases List.mem_cons.mp h with e | h
    · subst e
      exact .inr (by rw [Nat.xor_self]; exact Spn.zero ms)
    · exact .inl (Spn.mem h)
theorem Spn.sub : ∀ {as bs : List Nat} {x : Nat}, (∀ a ∈ as, Spn bs a) → Spn as x → Spn bs x
  | [], bs, x, _, h => by
    have h : x = 0 := h
    subst h
    exact Spn.zero bs
  | a :: as, bs, x, hs, h => by
    have ht : ∀ c ∈ as, Spn bs c := fun c hc => hs c (List.mem_cons_of_mem _ hc)
    rcases h with h | h
    · exact Spn.sub ht h
    · have h1 := Spn.sub ht h
      have h2 := Spn.xor h1 (hs a List.mem_cons_self)
      rwa [xx] at h2
theorem Spn.left {as bs : List Nat} {x : Nat} (h : Spn as x) : Spn (as ++ bs) x := Spn.sub (fun _ ha => Spn.mem (List.mem_append_left _ ha)) h
theorem Spn.bits0 {h : Nat} : ∀ {ms : List Nat} {x : Nat}, (∀ m ∈ ms, m.testBit h = false) → Spn ms x → x.testBit h = false
  | [], x, _, hx => by
    have hx : x = 0 := hx
    subst hx; simp
  | m :: ms, x, hm, hx => by
    have ht : ∀ c ∈ ms, c.testBit h = false := fun c hc => hm c (List.mem_cons_of_mem _ hc)
    rcases hx with hx | hx
    · exact Spn.bits0 ht hx
    · have := Spn.bits0 ht hx
      rw [Nat.testBit_xor, hm m List.mem_cons_self] at this
      simpa using this
theorem Spn.lt : ∀ {ms : List Nat} {x : Nat}, (∀ m ∈ ms, m < 2 ^ 63) → Spn ms x → x < 2 ^ 63
  | [], x, _, h => by
    have h : x = 0 := h
    subst h; decide
  | m :: ms, x, hm, h => by
    have ht : ∀ c ∈ ms, c < 2 ^ 63 := fun c hc => hm c (List.mem_cons_of_mem _ hc)
    rcases h with h | h
    · exact Spn.lt ht h
    · have := xor_lt (Spn.lt ht h) (hm m List.mem_cons_self)
      rwa [xx] at this
def xsum (f : Nat → Nat) : Nat → Nat
  | 0 => 0
  | n + 1 => xsum f n ^^^ f n
def pick (ms : List Nat) (u : Nat) : Nat := xsum (fun k => if u.testBit k then ms.getD k 0 else 0) 63
theorem xsum_xor (f g h : Nat → Nat) : ∀ n, (∀ k, k < n → h k = f k ^^^ g k) → xsum h n = xsum f n ^^^ xsum g n
  | 0, _ => by show (0 : Nat) = 0 ^^^ 0; simp
  | n + 1, e => by
    have ih := xsum_xor f g h n fun k hk => e k (by omega)
    show xsum h n ^^^ h n = (xsum f n ^^^ f n) ^^^ (xsum g n ^^^ g n)
    rw [ih, e n (by omega)]
    rw [Nat.xor_assoc, Nat.xor_assoc]
    congr 1
    rw [← Nat.xor_assoc, ← Nat.xor_assoc, Nat.xor_comm (xsum g n) (f n)]
theorem xsum_congr {f g : Nat → Nat} : ∀ n, (∀ k, k < n → f k = g k) → xsum f n = xsum g n
  | 0, _ => rfl
  | n + 1, e => by
    show xsum f n ^^^ f n = xsum g n ^^^ g n
    rw [xsum_congr n fun k hk => e k (by omega), e n (by omega)]
theorem pick_xor (ms : List Nat) (u v : Nat) : pick ms (u ^^^ v) = pick ms u ^^^ pick ms v := by
  refine xsum_xor _ _ _ 63 fun k _ => ?_
  rw [Nat.testBit_xor]
  cases u.testBit k <;> cases v.testBit k <;> simp
theorem pick_zero (ms : List Nat) : pick ms 0 = 0 := by
  have : ∀ n, xsum (fun k => if (0 : Nat).testBit k then ms.getD k 0 else 0) n = 0 := by
    intro n
    induction n with
    | zero => rfl
    | succ n ih => show _ ^^^ _ = 0; rw [ih]; simp
  exact this 63
theorem xsum_single {c : Nat} (f : Nat → Nat) (k : Nat) (h0 : ∀ j, j ≠ k → f j = 0) (hk : f k = c) : ∀ n, xsum f n = if k < n then c else 0
  | 0 => rfl
  | n + 1 => by
    show xsum f n ^^^ f n = _
    rw [xsum_single f k h0 hk n]
    by_cases e : n = k
    · subst e; simp [hk]
    · rw [h0 n e]
      by_cases h : k < n
      · rw [if_pos h, if_pos (by omega)]; simp
      · rw [if_neg h, if_neg (by omega)]; simp
theorem pick_one (ms : List Nat) {k : Nat} (hk : k < 63) : pick ms (2 ^ k) = ms.getD k 0 := by
  unfold pick
  have h0 : ∀ j, j ≠ k → (fun j => if (2 ^ k).testBit j then ms.getD j 0 else 0) j = 0 := by
    intro j hj
    show (if (2 ^ k).testBit j = true then ms.getD j 0 else 0) = 0
    rw [Nat.testBit_two_pow_of_ne (Ne.symm hj), if_neg Bool.false_ne_true]
  have h1 : (fun j => if (2 ^ k).testBit j then ms.getD j 0 else 0) k = ms.getD k 0 := by
    show (if (2 ^ k).testBit k = true then ms.getD k 0 else 0) = _
    rw [Nat.testBit_two_pow_self, if_pos rfl]
  rw [xsum_single _ k h0 h1 63, if_pos hk]
def Below (n u : Nat) : Prop := u < 2 ^ n
theorem pick_more {ms : List Nat} {m u : Nat} (hu : u < 2 ^ ms.length) : pick (ms ++ [m]) u = pick ms u := by
  refine xsum_congr 63 fun k _ => ?_
  by_cases h : u.testBit k = true
  · have hk : k < ms.length := by
      refine Nat.lt_of_not_le fun z => ?_
      rw [Nat.testBit_lt_two_pow (Nat.lt_of_lt_of_le hu (Nat.pow_le_pow_right (by decide) z))] at h
      cases h
    rw [if_pos h, if_pos h, List.getD_eq_getElem?_getD, List.getD_eq_getElem?_getD, List.getElem?_append_left hk]
  · rw [if_neg h, if_neg h]
theorem pick_span (ms : List Nat) (u : Nat) : Spn ms (pick ms u) := by
  have : ∀ n, Spn ms (xsum (fun k => if u.testBit k then ms.getD k 0 else 0) n) := by
    intro n
    induction n with
    | zero => exact Spn.zero ms
    | succ n ih =>
      refine Spn.xor ih ?_
      show Spn ms (if u.testBit n = true then ms.getD n 0 else 0)
      by_cases h : u.testBit n = true
      · rw [if_pos h]
        by_cases hn : n < ms.length
        · rw [List.getD_eq_getElem?_getD, List.getElem?_eq_getElem hn]
          exact Spn.mem (List.getElem_mem hn)
        · rw [List.getD_eq_getElem?_getD, List.getElem?_eq_none (by omega)]
          exact Spn.zero ms
      · rw [if_neg h]
        exact Spn.zero ms
  exact this 63
end Es
namespace Es
def look (bs : List (Nat × Nat × Nat)) (h : Nat) : Option (Nat × Nat) := (bs.find? fun b => decide (b.1 = h)).map (·.2)
theorem look_mem {bs : List (Nat × Nat × Nat)} {h : Nat} {p : Nat × Nat} (e : look bs h = some p) : (h, p) ∈ bs := by
  unfold look at e
  cases q : bs.find? fun b => decide (b.1 = h) with
  | none => rw [q] at e; cases e
  | some b =>
    rw [q] at e
    have e : b.2 = p := Option.some.inj e
    have h1 := List.find?_some q
    have h2 := List.mem_of_find?_eq_some q
    have h1 : b.1 = h := of_decide_eq_true h1
    obtain ⟨x, y⟩ := b
    simp only at e h1
    subst e; subst h1
    exact h2
theorem look_none {bs : List (Nat × Nat × Nat)} {h : Nat} : look bs h = none ↔ h ∉ bs.map (·.1) := by
  unfold look
  rw [Option.map_eq_none_iff, List.find?_eq_none]
  constructor
  · intro k m
    obtain ⟨b, hb, e⟩ := List.mem_map.mp m
    exact k b hb (decide_eq_true e)
  · intro k b hb e
    exact k (List.mem_map.mpr ⟨b, hb, of_decide_eq_true e⟩)
def rest : Nat → List (Nat × Nat × Nat) → Nat → Nat → Nat × Nat
  | 0, _, m, u => (m, u)
  | n + 1, bs, m, u =>
    match low m with
    | none => (m, u)
    | some h => match look bs h with
      | none => (m, u)
      | some p => rest n bs (m ^^^ p.1) (u ^^^ p.2)
structure BasOk (ms : List Nat) (bs : List (Nat × Nat × Nat)) : Prop where
  nd : (bs.map (·.1)).Nodup
  ok : ∀ b ∈ bs, low b.2.1 = some b.1 ∧ b.2.1 < 2 ^ 63 ∧ b.2.2 < 2 ^ ms.length ∧ pick ms b.2.2 = b.2.1
  all : ∀ m ∈ ms, Spn (bs.map (·.2.1)) m
theorem ech : ∀ {bs : List (Nat × Nat × Nat)}, (bs.map (·.1)).Nodup → (∀ b ∈ bs, low b.2.1 = some b.1) → ∀ {x : Nat}, Spn (bs.map (·.2.1)) x → x = 0 ∨ ∃ h, low x = some h ∧ h ∈ bs.map (·.1)
  | [], _, _, x, h => .inl h
  | b :: bs, nd, ok, x, h => by
    have nd : (b.1 :: bs.map (·.1)).Nodup := nd
    obtain ⟨n1, n2⟩ := List.nodup_cons.mp nd
    have ok2 : ∀ c ∈ bs, low c.2.1 = some c.1 := fun c hc => ok c (List.mem_cons_of_mem _ hc)
    have hb := ok b List.mem_cons_self
    have h : Spn (bs.map (·.2.1)) x ∨ Spn (bs.map (·.2.1)) (x ^^^ b.2.1) := h
    rcases h with h | h
    · rcases ech n2 ok2 h with e | ⟨k, e, m⟩
      · exact .inl e
      · exact .inr ⟨k, e, List.mem_cons_of_mem _ m⟩
    · have back : x = (x ^^^ b.2.1) ^^^ b.2.1 := (xx _ _).symm
      rcases ech n2 ok2 h with e | ⟨k, e, m⟩
      · rw [e, Nat.zero_xor] at back
        exact .inr ⟨b.1, by rw [back]; exact hb, List.mem_cons_self⟩
      · have ne : k ≠ b.1 := fun z => n1 (z ▸ m)
        by_cases lt : k < b.1
        · exact .inr ⟨k, by rw [back]; exact low_xor e hb lt, List.mem_cons_of_mem _ m⟩
        · refine .inr ⟨b.1, ?_, List.mem_cons_self⟩
          rw [back, Nat.xor_comm]
          exact low_xor hb e (by omega)
theorem rest_spec {ms : List Nat} {bs : List (Nat × Nat × Nat)} (B : BasOk ms bs) : ∀ (n m u : Nat), m < 2 ^ 63 → (∀ h, low m = some h → 63 ≤ h + n) →
    (rest n bs m u).1 < 2 ^ 63 ∧ (∃ c, c < 2 ^ ms.length ∧ (rest n bs m u).2 = u ^^^ c ∧ (rest n bs m u).1 = m ^^^ pick ms c) ∧
      ((rest n bs m u).1 = 0 ∨ ∃ h, low (rest n bs m u).1 = some h ∧ look bs h = none)
  | 0, m, u, hm, hn => by
    refine ⟨hm, ⟨0, Nat.two_pow_pos _, by simp [rest], by rw [pick_zero]; simp [rest]⟩, .inl ?_⟩
    refine (low_none hm).mp ?_
    cases e : low m with
    | none => rfl
    | some h =>
      have := hn h e
      have := (low_iff.mp e).1
      omega
  | n + 1, m, u, hm, hn => by
    cases e : low m with
    | none =>
      have r0 : rest (n + 1) bs m u = (m, u) := by simp [rest, e]
      rw [r0]
      exact ⟨hm, ⟨0, Nat.two_pow_pos _, by simp, by rw [pick_zero]; simp⟩, .inl ((low_none hm).mp e)⟩
    | some h =>
      cases q : look bs h with
      | none =>
        have r0 : rest (n + 1) bs m u = (m, u) := by simp [rest, e, q]
        rw [r0]
        exact ⟨hm, ⟨0, Nat.two_pow_pos _, by simp, by rw [pick_zero]; simp⟩, .inr ⟨h, e, q⟩⟩
      | some p =>
        have r0 : rest (n + 1) bs m u = rest n bs (m ^^^ p.1) (u ^^^ p.2) := by simp [rest, e, q]
        obtain ⟨o1, o2, o3, o4⟩ := B.ok _ (look_mem q)
        simp only at o1 o2 o3 o4
        obtain ⟨h1, ⟨c, c1, c2, c3⟩, h3⟩ := rest_spec B n (m ^^^ p.1) (u ^^^ p.2) (xor_lt hm o2) fun k hk => by
          have := low_xor_same e o1 hk
          have := hn h e
          omega
        rw [r0]
        refine ⟨h1, ⟨p.2 ^^^ c, Nat.xor_lt_two_pow o3 c1, ?_, ?_⟩, h3⟩
        · rw [c2, Nat.xor_assoc]
        · rw [c3, pick_xor, o4, Nat.xor_assoc]
theorem rest_none {ms : List Nat} {bs : List (Nat × Nat × Nat)} (B : BasOk ms bs) {m u : Nat} (hm : m < 2 ^ 63) : Spn ms m ↔ (rest 64 bs m u).1 = 0 := by
  obtain ⟨h1, ⟨c, c1, c2, c3⟩, h3⟩ := rest_spec B 64 m u hm fun h _ => by omega
  constructor
  · intro s
    have s2 : Spn ms (rest 64 bs m u).1 := by rw [c3]; exact Spn.xor s (pick_span ms c)
    have s3 : Spn (bs.map (·.2.1)) (rest 64 bs m u).1 := Spn.sub B.all s2
    rcases h3 with e | ⟨h, e, q⟩
    · exact e
    · rcases ech B.nd (fun b hb => (B.ok b hb).1) s3 with z | ⟨k, z, mem⟩
      · exact z
      · rw [e] at z
        have z : h = k := Option.some.inj z
        subst z
        exact absurd mem (look_none.mp q)
  · intro e
    rw [e] at c3
    have : m = pick ms c := by
      have := congrArg (· ^^^ pick ms c) c3
      simp only [Nat.zero_xor] at this
      rw [xx] at this
      exact this.symm
    rw [this]
    exact pick_span ms c
abbrev Est := List (Nat × Nat × Nat) × List (Nat × Nat) × Nat
def estep (s : Est) (m : Nat) : Est :=
  match low (rest 64 s.1 m (2 ^ s.2.2)).1 with
  | some h => (s.1 ++ [(h, rest 64 s.1 m (2 ^ s.2.2))], s.2.1, s.2.2 + 1)
  | none => (s.1, s.2.1 ++ [(s.2.2, (rest 64 s.1 m (2 ^ s.2.2)).2)], s.2.2 + 1)
def elim (ms : List Nat) : Est := ms.foldl estep ([], [], 0)
theorem elim_snoc (ms : List Nat) (m : Nat) : elim (ms ++ [m]) = estep (elim ms) m := by simp [elim]
theorem elim_take (ms : List Nat) {i : Nat} (h : i < ms.length) : elim (ms.take (i + 1)) = estep (elim (ms.take i)) ms[i] := by
  rw [List.take_succ_eq_append_getElem h, elim_snoc]
structure ElimOk (ms : List Nat) (s : Est) : Prop where
  n : s.2.2 = ms.length
  bas : BasOk ms s.1
  lots : ∀ l ∈ s.2.1, l.1 < ms.length ∧ l.2 ≠ 0 ∧ l.2 < 2 ^ ms.length ∧ pick ms l.2 = 0
  keys : (s.2.1.map (·.1)).Pairwise (· < ·)
  dep : ∀ k, k < ms.length → (k ∈ s.2.1.map (·.1) ↔ Spn (ms.take k) (ms.getD k 0))
  sum : s.1.length + s.2.1.length = ms.length
theorem elim_ok : ∀ (ms : List Nat), (∀ m ∈ ms, m < 2 ^ 63) → ms.length ≤ 62 → ElimOk ms (elim ms) := by
  intro ms
  suffices h : ∀ n, ∀ ms : List Nat, ms.length = n → (∀ m ∈ ms, m < 2 ^ 63) → ms.length ≤ 62 → ElimOk ms (elim ms) from h _ ms rfl
  intro n
  induction n with
  | zero =>
    intro ms hl _ _
    have : ms = [] := List.length_eq_zero_iff.mp hl
    subst this
    exact ⟨rfl, ⟨List.nodup_nil, (fun b hb => by cases hb), (fun b hb => by cases hb)⟩, (fun b hb => by cases hb), List.Pairwise.nil, (fun k hk => by cases hk), rfl⟩
  | succ n ih =>
    intro ms hl hm h62
    have hne : ms ≠ [] := by intro z; subst z; cases hl
    obtain ⟨pre, m, rfl⟩ : ∃ pre m, ms = pre ++ [m] := ⟨ms.dropLast, ms.getLast hne, (List.dropLast_concat_getLast hne).symm⟩
    have hpl : pre.length = n := by simpa using hl
    have O := ih pre hpl (fun x hx => hm x (List.mem_append_left _ hx)) (by simp at h62; omega)
    have hmm : m < 2 ^ 63 := hm m (List.mem_append_right _ List.mem_cons_self)
    rw [elim_snoc]
    obtain ⟨o1, B, o3, o4, o5, o6⟩ := O
    obtain ⟨h1, ⟨c, c1, c2, c3⟩, h3⟩ := rest_spec B 64 m (2 ^ (elim pre).2.2) hmm fun h _ => by omega
    have dn := rest_none B (u := 2 ^ (elim pre).2.2) hmm
    have len : (pre ++ [m]).length = pre.length + 1 := by simp
    have p2 : 2 ^ pre.length < 2 ^ (pre.length + 1) := Nat.pow_lt_pow_right (by decide) (by omega)
    have c2 : (rest 64 (elim pre).1 m (2 ^ (elim pre).2.2)).2 = 2 ^ pre.length ^^^ c := c2.trans (by rw [o1])
    have usedLt : (rest 64 (elim pre).1 m (2 ^ (elim pre).2.2)).2 < 2 ^ (pre.length + 1) := by
      rw [c2]
      exact Nat.xor_lt_two_pow p2 (Nat.lt_trans c1 p2)
    have usedNe : (rest 64 (elim pre).1 m (2 ^ (elim pre).2.2)).2 ≠ 0 := by
      rw [c2]
      intro z
      have : (2 ^ pre.length ^^^ c).testBit pre.length = true := by
        rw [Nat.testBit_xor, Nat.testBit_two_pow_self, Nat.testBit_lt_two_pow c1]; rfl
      rw [z] at this
      simp at this
    have usedPick : pick (pre ++ [m]) (rest 64 (elim pre).1 m (2 ^ (elim pre).2.2)).2 = (rest 64 (elim pre).1 m (2 ^ (elim pre).2.2)).1 := by
      rw [c2, pick_xor, pick_more c1, pick_one _ (by simp at h62; omega), c3]
      congr 1
      simp [List.getD_eq_getElem?_getD]
    have depOld : ∀ k, k < pre.length → ((pre ++ [m]).take k = pre.take k ∧ (pre ++ [m]).getD k 0 = pre.getD k 0) := by
      intro k hk
      refine ⟨List.take_append_of_le_length (by omega), ?_⟩
      rw [List.getD_eq_getElem?_getD, List.getD_eq_getElem?_getD, List.getElem?_append_left hk]
    have depNew : (pre ++ [m]).take pre.length = pre ∧ (pre ++ [m]).getD pre.length 0 = m := by
      refine ⟨by simp, by simp [List.getD_eq_getElem?_getD]⟩
    cases e : low (rest 64 (elim pre).1 m (2 ^ (elim pre).2.2)).1 with
    | some h =>
      have st : estep (elim pre) m = ((elim pre).1 ++ [(h, rest 64 (elim pre).1 m (2 ^ (elim pre).2.2))], (elim pre).2.1, (elim pre).2.2 + 1) := by
        simp [estep, e]
      have nz : (rest 64 (elim pre).1 m (2 ^ (elim pre).2.2)).1 ≠ 0 := fun z => by rw [z] at e; cases e
      have fresh : look (elim pre).1 h = none := by
        rcases h3 with z | ⟨k, z, q⟩
        · exact absurd z nz
        · rw [e] at z
          have z : h = k := Option.some.inj z
          rw [z]; exact q
      have hd := look_none.mp fresh
      rw [st]
      refine ⟨by show _ = _; rw [o1, len], ⟨?_, ?_, ?_⟩, ?_, o4, ?_, ?_⟩
      · rw [List.map_append]
        refine List.nodup_append.mpr ⟨B.nd, by simp, fun a ha b hb => ?_⟩
        have hb : b = h := by simpa using hb
        subst hb
        exact fun z => hd (z ▸ ha)
      · intro b hb
        rcases List.mem_append.mp hb with hb | hb
        · obtain ⟨b1, b2, b3, b4⟩ := B.ok b hb
          exact ⟨b1, b2, by rw [len]; exact Nat.lt_trans b3 p2, by rw [pick_more b3]; exact b4⟩
        · have hb : b = (h, rest 64 (elim pre).1 m (2 ^ (elim pre).2.2)) := by simpa using hb
          subst hb
          exact ⟨e, h1, by rw [len]; exact usedLt, usedPick⟩
      · intro x hx
        rw [List.map_append]
        rcases List.mem_append.mp hx with hx | hx
        · exact Spn.left (B.all x hx)
        · have hx : x = m := by simpa using hx
          subst hx
          have a1 : Spn ((elim pre).1.map (·.2.1)) (pick pre c) := Spn.sub B.all (pick_span pre c)
          have a2 : x = (rest 64 (elim pre).1 x (2 ^ (elim pre).2.2)).1 ^^^ pick pre c := by rw [c3, xx]
          have a3 : Spn ((elim pre).1.map (·.2.1) ++ [(h, rest 64 (elim pre).1 x (2 ^ (elim pre).2.2))].map (·.2.1)) (rest 64 (elim pre).1 x (2 ^ (elim pre).2.2)).1 :=
            Spn.mem (List.mem_append_right _ (by simp))
          have a4 := Spn.xor a3 (Spn.left (bs := [(h, rest 64 (elim pre).1 x (2 ^ (elim pre).2.2))].map (·.2.1)) a1)
          rw [← a2] at a4
          exact a4
      · intro l hl2
        obtain ⟨l1, l2, l3, l4⟩ := o3 l hl2
        exact ⟨by rw [len]; omega, l2, by rw [len]; exact Nat.lt_trans l3 p2, by rw [pick_more l3]; exact l4⟩
      · intro k hk
        rw [len] at hk
        by_cases hk2 : k < pre.length
        · rw [(depOld k hk2).1, (depOld k hk2).2]
          exact o5 k hk2
        · have : k = pre.length := by omega
          subst this
          rw [depNew.1, depNew.2]
          constructor
          · intro mem
            obtain ⟨l, l1, l2⟩ := List.mem_map.mp mem
            have := (o3 l l1).1
            omega
          · intro s
            exact absurd (dn.mp s) nz
      · show ((elim pre).1 ++ _).length + _ = _
        rw [List.length_append, len]
        simp
        omega
    | none =>
      have st : estep (elim pre) m = ((elim pre).1, (elim pre).2.1 ++ [((elim pre).2.2, (rest 64 (elim pre).1 m (2 ^ (elim pre).2.2)).2)], (elim pre).2.2 + 1) := by
        simp [estep, e]
      have z0 : (rest 64 (elim pre).1 m (2 ^ (elim pre).2.2)).1 = 0 := (low_none h1).mp e
      rw [st]
      refine ⟨by show _ = _; rw [o1, len], ⟨B.nd, ?_, ?_⟩, ?_, ?_, ?_, ?_⟩
      · intro b hb
        obtain ⟨b1, b2, b3, b4⟩ := B.ok b hb
        exact ⟨b1, b2, by rw [len]; exact Nat.lt_trans b3 p2, by rw [pick_more b3]; exact b4⟩
      · intro x hx
        rcases List.mem_append.mp hx with hx | hx
        · exact B.all x hx
        · have hx : x = m := by simpa using hx
          subst hx
          exact Spn.sub B.all (dn.mpr z0)
      · intro l hl2
        rcases List.mem_append.mp hl2 with hl2 | hl2
        · obtain ⟨l1, l2, l3, l4⟩ := o3 l hl2
          exact ⟨by rw [len]; omega, l2, by rw [len]; exact Nat.lt_trans l3 p2, by rw [pick_more l3]; exact l4⟩
        · have hl2 : l = ((elim pre).2.2, (rest 64 (elim pre).1 m (2 ^ (elim pre).2.2)).2) := by simpa using hl2
          subst hl2
          exact ⟨by rw [len, o1]; omega, usedNe, by rw [len]; exact usedLt, by rw [usedPick]; exact z0⟩
      · rw [List.map_append]
        refine List.pairwise_append.mpr ⟨o4, by simp, fun a ha b hb => ?_⟩
        have hb : b = (elim pre).2.2 := by simpa using hb
        obtain ⟨l, l1, l2⟩ := List.mem_map.mp ha
        have := (o3 l l1).1
        rw [hb, o1]
        omega
      · intro k hk
        rw [len] at hk
        rw [List.map_append, List.mem_append]
        by_cases hk2 : k < pre.length
        · rw [(depOld k hk2).1, (depOld k hk2).2, ← o5 k hk2]
          constructor
          · rintro (h | h)
            · exact h
            · have : k = (elim pre).2.2 := by simpa using h
              omega
          · exact .inl
        · have : k = pre.length := by omega
          subst this
          rw [depNew.1, depNew.2]
          exact ⟨fun _ => dn.mpr z0, fun _ => .inr (by simp [o1])⟩
      · show _ + ((elim pre).2.1 ++ _).length = _
        rw [List.length_append, len]
        simp
        omega
def indep (ms : List Nat) : List Nat := (List.range ms.length).filter fun k => decide (k ∉ (elim ms).2.1.map (·.1))
def srt (l : List Nat) : List Nat := (List.range 63).filter fun u => decide (u ∈ l)
theorem mem_srt {l : List Nat} {u : Nat} : u ∈ srt l ↔ u < 63 ∧ u ∈ l := by simp [srt]
theorem srt_lt (l : List Nat) : (srt l).Pairwise (· < ·) := List.Pairwise.filter _ List.pairwise_lt_range
def lred1 (hs : List (Nat × Nat × Nat)) (p : Nat × Nat) (h : Nat) : Nat × Nat :=
  if p.1.testBit h = true then match look hs h with
    | some q => (p.1 ^^^ q.1, p.2 ^^^ q.2)
    | none => p
  else p
def lred (hs : List (Nat × Nat × Nat)) (p : Nat × Nat) : Nat × Nat := (srt (hs.map (·.1))).foldl (lred1 hs) p
def lput (hs : List (Nat × Nat × Nat)) (at_ : Nat) (p : Nat × Nat) : List (Nat × Nat × Nat) :=
  (hs.map fun e => if e.2.1.testBit at_ = true then (e.1, e.2.1 ^^^ p.1, e.2.2 ^^^ p.2) else e) ++ [(at_, p.1, p.2)]
def lstep (hs : List (Nat × Nat × Nat)) (l : Nat × Nat) : Option (List (Nat × Nat × Nat)) :=
  match low (lred hs l).1 with
  | none => if (lred hs l).2 = 1 then none else some hs
  | some a => some (lput hs a (lred hs l))
structure RedOk (hs : List (Nat × Nat × Nat)) : Prop where
  nd : (hs.map (·.1)).Nodup
  own : ∀ e ∈ hs, e.1 < 63 ∧ e.2.1 < 2 ^ 63 ∧ e.2.1.testBit e.1 = true
  oth : ∀ e ∈ hs, ∀ h ∈ hs.map (·.1), h ≠ e.1 → e.2.1.testBit h = false
theorem red_zero : ∀ {hs : List (Nat × Nat × Nat)}, (hs.map (·.1)).Nodup → (∀ e ∈ hs, e.2.1.testBit e.1 = true) → (∀ e ∈ hs, ∀ h ∈ hs.map (·.1), h ≠ e.1 → e.2.1.testBit h = false) →
    ∀ {x : Nat}, Spn (hs.map (·.2.1)) x → (∀ h ∈ hs.map (·.1), x.testBit h = false) → x = 0
  | [], _, _, _, x, s, _ => s
  | e :: hs, nd, ow, ot, x, s, no => by
    have nd : (e.1 :: hs.map (·.1)).Nodup := nd
    obtain ⟨n1, n2⟩ := List.nodup_cons.mp nd
    have s : Spn (hs.map (·.2.1)) x ∨ Spn (hs.map (·.2.1)) (x ^^^ e.2.1) := s
    have rec_ := @red_zero hs n2 (fun c hc => ow c (List.mem_cons_of_mem _ hc)) (fun c hc h hh => ot c (List.mem_cons_of_mem _ hc) h (List.mem_cons_of_mem _ hh))
    rcases s with s | s
    · exact rec_ s fun h hh => no h (List.mem_cons_of_mem _ hh)
    · have b0 : (x ^^^ e.2.1).testBit e.1 = false := Spn.bits0 (fun m hm => by
        obtain ⟨c, hc, rfl⟩ := List.mem_map.mp hm
        refine ot c (List.mem_cons_of_mem _ hc) e.1 List.mem_cons_self fun z => ?_
        exact n1 (z ▸ List.mem_map.mpr ⟨c, hc, rfl⟩)) s
      rw [Nat.testBit_xor, ow e List.mem_cons_self, no e.1 List.mem_cons_self] at b0
      cases b0
theorem lred_fold {hs : List (Nat × Nat × Nat)} (R : RedOk hs) : ∀ (S : List Nat) (dn : List Nat) (p : Nat × Nat), (∀ h ∈ S, h ∈ hs.map (·.1)) → (∀ h ∈ dn, h ∈ hs.map (·.1)) → p.1 < 2 ^ 63 → (∀ h ∈ dn, p.1.testBit h = false) →
    (S.foldl (lred1 hs) p).1 < 2 ^ 63 ∧ (∃ y, Spn (hs.map (·.2.1)) y ∧ (S.foldl (lred1 hs) p).1 = p.1 ^^^ y) ∧ (∀ h, h ∈ dn ∨ h ∈ S → (S.foldl (lred1 hs) p).1.testBit h = false)
  | [], dn, p, _, _, hp, hd => ⟨hp, ⟨0, Spn.zero _, by simp⟩, fun h hh => by
      rcases hh with hh | hh
      · exact hd h hh
      · cases hh⟩
  | k :: S, dn, p, hS, hD, hp, hd => by
    have hk := hS k List.mem_cons_self
    obtain ⟨e, he, ek⟩ := List.mem_map.mp hk
    have step : ∃ y, Spn (hs.map (·.2.1)) y ∧ (lred1 hs p k).1 = p.1 ^^^ y ∧ (lred1 hs p k).1 < 2 ^ 63 ∧ (lred1 hs p k).1.testBit k = false ∧ ∀ h ∈ dn, (lred1 hs p k).1.testBit h = false := by
      unfold lred1
      by_cases hb : p.1.testBit k = true
      · rw [if_pos hb]
        cases q : look hs k with
        | none => exact absurd hk (look_none.mp q)
        | some r =>
          have mem := look_mem q
          obtain ⟨w1, w2, w3⟩ := R.own _ mem
          simp only at w1 w2 w3
          refine ⟨r.1, Spn.mem (List.mem_map.mpr ⟨_, mem, rfl⟩), rfl, xor_lt hp w2, ?_, fun h hh => ?_⟩
          · show (p.1 ^^^ r.1).testBit k = false
            rw [Nat.testBit_xor, hb, w3]; rfl
          · show (p.1 ^^^ r.1).testBit h = false
            rw [Nat.testBit_xor, hd h hh]
            by_cases z : h = k
            · subst z
              rw [hd h hh] at hb; cases hb
            · rw [R.oth _ mem h (hD h hh) z]; rfl
      · rw [if_neg hb]
        exact ⟨0, Spn.zero _, by simp, hp, by simpa using hb, hd⟩
    obtain ⟨y, y1, y2, y3, y4, y5⟩ := step
    obtain ⟨f1, ⟨z, z1, z2⟩, f3⟩ := lred_fold R S (k :: dn) (lred1 hs p k) (fun h hh => hS h (List.mem_cons_of_mem _ hh)) (fun h hh => by
      rcases List.mem_cons.mp hh with e | e
      · subst e; exact hk
      · exact hD h e) y3 (fun h hh => by
      rcases List.mem_cons.mp hh with e | e
      · subst e; exact y4
      · exact y5 h e)
    refine ⟨f1, ⟨y ^^^ z, Spn.xor y1 z1, ?_⟩, fun h hh => f3 h ?_⟩
    · show (S.foldl (lred1 hs) (lred1 hs p k)).1 = _
      rw [z2, y2, Nat.xor_assoc]
    · rcases hh with hh | hh
      · exact .inl (List.mem_cons_of_mem _ hh)
      · rcases List.mem_cons.mp hh with e | e
        · subst e; exact .inl List.mem_cons_self
        · exact .inr e
theorem lred_spec {hs : List (Nat × Nat × Nat)} (R : RedOk hs) {p : Nat × Nat} (hp : p.1 < 2 ^ 63) :
    (lred hs p).1 < 2 ^ 63 ∧ (∃ y, Spn (hs.map (·.2.1)) y ∧ (lred hs p).1 = p.1 ^^^ y) ∧ ∀ h ∈ hs.map (·.1), (lred hs p).1.testBit h = false := by
  obtain ⟨a, b, c⟩ := lred_fold R (srt (hs.map (·.1))) [] p (fun h hh => (mem_srt.mp hh).2) (fun h hh => by cases hh) hp (fun h hh => by cases hh)
  refine ⟨a, b, fun h hh => c h (.inr (mem_srt.mpr ⟨?_, hh⟩))⟩
  obtain ⟨e, he, z⟩ := List.mem_map.mp hh
  have := (R.own e he).1
  rw [← z]; exact this
theorem lput_ok {hs : List (Nat × Nat × Nat)} (R : RedOk hs) {p : Nat × Nat} {a : Nat} (hp : p.1 < 2 ^ 63) (hl : low p.1 = some a) (no : ∀ h ∈ hs.map (·.1), p.1.testBit h = false) :
    RedOk (lput hs a p) ∧ (lput hs a p).map (·.1) = hs.map (·.1) ++ [a] ∧ (∀ x, Spn ((lput hs a p).map (·.2.1)) x ↔ Spn (hs.map (·.2.1) ++ [p.1]) x) := by
  obtain ⟨a1, a2, a3⟩ := low_iff.mp hl
  have hm : (lput hs a p).map (·.1) = hs.map (·.1) ++ [a] := by
    unfold lput
    rw [List.map_append, List.map_map]
    congr 1
    refine List.map_congr_left fun e _ => ?_
    show (if _ then _ else _ : Nat × Nat × Nat).1 = e.1
    split <;> rfl
  have na : a ∉ hs.map (·.1) := fun z => by rw [no a z] at a2; cases a2
  have each : ∀ e ∈ lput hs a p, (e = (a, p.1, p.2)) ∨ ∃ e0 ∈ hs, e.1 = e0.1 ∧ ((e0.2.1.testBit a = true ∧ e.2.1 = e0.2.1 ^^^ p.1) ∨ (e0.2.1.testBit a = false ∧ e.2.1 = e0.2.1)) := by
    intro e he
    rcases List.mem_append.mp he with he | he
    · obtain ⟨e0, h0, rfl⟩ := List.mem_map.mp he
      refine .inr ⟨e0, h0, ?_⟩
      by_cases hb : e0.2.1.testBit a = true
      · rw [if_pos hb]; exact ⟨rfl, .inl ⟨hb, rfl⟩⟩
      · rw [if_neg hb]; exact ⟨rfl, .inr ⟨by simpa using hb, rfl⟩⟩
    · exact .inl (by simpa using he)
  refine ⟨⟨?_, ?_, ?_⟩, hm, ?_⟩
  · rw [hm]
    refine List.nodup_append.mpr ⟨R.nd, by simp, fun x hx y hy => ?_⟩
    have hy : y = a := by simpa using hy
    subst hy
    exact fun z => na (z ▸ hx)
  · intro e he
    rcases each e he with rfl | ⟨e0, h0, e1, e2⟩
    · exact ⟨a1, hp, a2⟩
    · obtain ⟨w1, w2, w3⟩ := R.own e0 h0
      have hh : e0.1 ∈ hs.map (·.1) := List.mem_map.mpr ⟨e0, h0, rfl⟩
      rcases e2 with ⟨_, e2⟩ | ⟨_, e2⟩
      · refine ⟨by rw [e1]; exact w1, by rw [e2]; exact xor_lt w2 hp, ?_⟩
        rw [e1, e2, Nat.testBit_xor, w3, no _ hh]; rfl
      · exact ⟨by rw [e1]; exact w1, by rw [e2]; exact w2, by rw [e1, e2]; exact w3⟩
  · intro e he h hh ne
    rw [hm] at hh
    rcases each e he with rfl | ⟨e0, h0, e1, e2⟩
    · rcases List.mem_append.mp hh with hh | hh
      · exact no h hh
      · exact absurd (by simpa using hh) ne
    · rcases List.mem_append.mp hh with hh | hh
      · have o := R.oth e0 h0 h hh (e1 ▸ ne)
        rcases e2 with ⟨_, e2⟩ | ⟨_, e2⟩
        · rw [e2, Nat.testBit_xor, o, no h hh]; rfl
        · rw [e2]; exact o
      · have hh : h = a := by simpa using hh
        subst hh
        rcases e2 with ⟨b, e2⟩ | ⟨b, e2⟩
        · rw [e2, Nat.testBit_xor, b, a2]; rfl
        · rw [e2]; exact b
  · intro x
    have pm : Spn ((lput hs a p).map (·.2.1)) p.1 := Spn.mem (List.mem_map.mpr ⟨(a, p.1, p.2), List.mem_append_right _ (by simp), rfl⟩)
    constructor
    · refine Spn.sub fun y hy => ?_
      obtain ⟨e, he, rfl⟩ := List.mem_map.mp hy
      have p2 : Spn (hs.map (·.2.1) ++ [p.1]) p.1 := Spn.mem (List.mem_append_right _ (by simp))
      rcases each e he with rfl | ⟨e0, h0, e1, e2⟩
      · exact p2
      · have o : Spn (hs.map (·.2.1) ++ [p.1]) e0.2.1 := Spn.mem (List.mem_append_left _ (List.mem_map.mpr ⟨e0, h0, rfl⟩))
        rcases e2 with ⟨_, e2⟩ | ⟨_, e2⟩
        · rw [e2]; exact Spn.xor o p2
        · rw [e2]; exact o
    · refine Spn.sub fun y hy => ?_
      rcases List.mem_append.mp hy with hy | hy
      · obtain ⟨e0, h0, rfl⟩ := List.mem_map.mp hy
        by_cases hb : e0.2.1.testBit a = true
        · have : Spn ((lput hs a p).map (·.2.1)) (e0.2.1 ^^^ p.1) := Spn.mem (List.mem_map.mpr ⟨(e0.1, e0.2.1 ^^^ p.1, e0.2.2 ^^^ p.2), List.mem_append_left _ (List.mem_map.mpr ⟨e0, h0, by rw [if_pos hb]⟩), rfl⟩)
          have := Spn.xor this pm
          rwa [xx] at this
        · exact Spn.mem (List.mem_map.mpr ⟨e0, List.mem_append_left _ (List.mem_map.mpr ⟨e0, h0, by rw [if_neg hb]⟩), rfl⟩)
      · have hy : y = p.1 := by simpa using hy
        rw [hy]; exact pm
def lflat (ls : List (Nat × Nat)) : Option (List (Nat × Nat × Nat)) := ls.foldl (fun o l => o.bind fun hs => lstep hs l) (some [])
theorem lflat_snoc (ls : List (Nat × Nat)) (l : Nat × Nat) : lflat (ls ++ [l]) = (lflat ls).bind fun hs => lstep hs l := by simp [lflat]
def zeroB (ms : List Nat) : List (Nat × Nat) := ms.map fun m => (m, 0)
theorem lred1_bit {hs : List (Nat × Nat × Nat)} (h0 : ∀ e ∈ hs, e.2.2 = 0) {p : Nat × Nat} (hp : p.2 = 0) (h : Nat) : (lred1 hs p h).2 = 0 := by
  unfold lred1
  split
  · split
    · next q e =>
      have := h0 _ (look_mem e)
      simp only at this
      show p.2 ^^^ q.2 = 0
      rw [hp, this]; rfl
    · exact hp
  · exact hp
theorem lred_bit {hs : List (Nat × Nat × Nat)} (h0 : ∀ e ∈ hs, e.2.2 = 0) {p : Nat × Nat} (hp : p.2 = 0) : (lred hs p).2 = 0 := by
  unfold lred
  generalize srt (hs.map (·.1)) = S
  induction S generalizing p with
  | nil => exact hp
  | cons k S ih => exact ih (lred1_bit h0 hp k)
theorem lflat_rows : ∀ (ms : List Nat), (∀ m ∈ ms, m < 2 ^ 63) → ∃ hs, lflat (zeroB ms) = some hs ∧ RedOk hs ∧ (∀ e ∈ hs, e.2.2 = 0) ∧ (∀ x, Spn (hs.map (·.2.1)) x ↔ Spn ms x) := by
  intro ms
  suffices h : ∀ n, ∀ ms : List Nat, ms.length = n → (∀ m ∈ ms, m < 2 ^ 63) → ∃ hs, lflat (zeroB ms) = some hs ∧ RedOk hs ∧ (∀ e ∈ hs, e.2.2 = 0) ∧ (∀ x, Spn (hs.map (·.2.1)) x ↔ Spn ms x) from h _ ms rfl
  intro n
  induction n with
  | zero =>
    intro ms hl _
    have : ms = [] := List.length_eq_zero_iff.mp hl
    subst this
    exact ⟨[], rfl, ⟨List.nodup_nil, (fun e he => by cases he), (fun e he => by cases he)⟩, (fun e he => by cases he), fun x => Iff.rfl⟩
  | succ n ih =>
    intro ms hl hm
    have hne : ms ≠ [] := by intro z; subst z; cases hl
    obtain ⟨pre, m, rfl⟩ : ∃ pre m, ms = pre ++ [m] := ⟨ms.dropLast, ms.getLast hne, (List.dropLast_concat_getLast hne).symm⟩
    obtain ⟨hs, f1, R, f3, f4⟩ := ih pre (by simpa using hl) fun x hx => hm x (List.mem_append_left _ hx)
    have hmm : m < 2 ^ 63 := hm m (List.mem_append_right _ List.mem_cons_self)
    have sn : lflat (zeroB (pre ++ [m])) = lstep hs (m, 0) := by
      unfold zeroB at f1 ⊢
      rw [List.map_append]
      show lflat (pre.map (fun m => (m, 0)) ++ [(m, 0)]) = _
      rw [lflat_snoc, f1]
      rfl
    have b0 : (lred hs (m, 0)).2 = 0 := lred_bit f3 rfl
    obtain ⟨l1, ⟨y, y1, y2⟩, l3⟩ := lred_spec R (p := (m, 0)) hmm
    have y2 : (lred hs (m, 0)).1 = m ^^^ y := y2
    rw [sn]
    unfold lstep
    cases e : low (lred hs (m, 0)).1 with
    | none =>
      have z0 := (low_none l1).mp e
      refine ⟨hs, by simp [b0], R, f3, fun x => ?_⟩
      rw [f4]
      constructor
      · exact Spn.left
      · refine Spn.sub fun a ha => ?_
        rcases List.mem_append.mp ha with ha | ha
        · exact Spn.mem ha
        · have ha : a = m := by simpa using ha
          subst ha
          have : a = y := by
            rw [z0] at y2
            have := congrArg (· ^^^ y) y2
            simp only [Nat.zero_xor] at this
            rw [xx] at this
            exact this.symm
          rw [this]
          exact (f4 y).mp y1
    | some a =>
      obtain ⟨g1, g2, g3⟩ := lput_ok R l1 e l3
      refine ⟨lput hs a (lred hs (m, 0)), rfl, g1, ?_, fun x => ?_⟩
      · intro e he
        rcases List.mem_append.mp he with he | he
        · obtain ⟨e0, h0, rfl⟩ := List.mem_map.mp he
          by_cases hb : e0.2.1.testBit a = true
          · rw [if_pos hb]
            show e0.2.2 ^^^ (lred hs (m, 0)).2 = 0
            rw [b0, f3 e0 h0]; rfl
          · rw [if_neg hb]; exact f3 e0 h0
        · have he : e = (a, (lred hs (m, 0)).1, (lred hs (m, 0)).2) := by simpa using he
          rw [he]; exact b0
      · rw [g3]
        have yp : Spn pre y := (f4 y).mp y1
        constructor
        · refine Spn.sub fun z hz => ?_
          rcases List.mem_append.mp hz with hz | hz
          · exact Spn.left ((f4 z).mp (Spn.mem hz))
          · have hz : z = (lred hs (m, 0)).1 := by simpa using hz
            rw [hz, y2]
            exact Spn.xor (Spn.mem (List.mem_append_right _ (by simp))) (Spn.left yp)
        · refine Spn.sub fun z hz => ?_
          rcases List.mem_append.mp hz with hz | hz
          · exact Spn.left ((f4 z).mpr (Spn.mem hz))
          · have hz : z = m := by simpa using hz
            have a1 : Spn (hs.map (·.2.1) ++ [(lred hs (m, 0)).1]) (lred hs (m, 0)).1 := Spn.mem (List.mem_append_right _ (by simp))
            have a2 := Spn.xor a1 (Spn.left (bs := [(lred hs (m, 0)).1]) y1)
            rw [y2, xx] at a2
            rw [hz, y2]; exact a2
def lrank (ms : List Nat) : Nat := ((lflat (zeroB ms)).getD []).length
theorem lrank_nil : lrank [] = 0 := rfl
theorem lrank_snoc {ms : List Nat} {m : Nat} (hm : ∀ x ∈ ms, x < 2 ^ 63) (hmm : m < 2 ^ 63) :
    (Spn ms m → lrank (ms ++ [m]) = lrank ms) ∧ (¬ Spn ms m → lrank (ms ++ [m]) = lrank ms + 1) := by
  obtain ⟨hs, f1, R, f3, f4⟩ := lflat_rows ms hm
  have sn : lflat (zeroB (ms ++ [m])) = lstep hs (m, 0) := by
    unfold zeroB at f1 ⊢
    rw [List.map_append]
    show lflat (ms.map (fun m => (m, 0)) ++ [(m, 0)]) = _
    rw [lflat_snoc, f1]
    rfl
  have b0 : (lred hs (m, 0)).2 = 0 := lred_bit f3 rfl
  obtain ⟨l1, ⟨y, y1, y2⟩, l3⟩ := lred_spec R (p := (m, 0)) hmm
  have y2 : (lred hs (m, 0)).1 = m ^^^ y := y2
  have l0 : lrank ms = hs.length := by unfold lrank; rw [f1]; rfl
  unfold lrank at l0 ⊢
  rw [sn]
  unfold lstep
  cases e : low (lred hs (m, 0)).1 with
  | none =>
    have z0 := (low_none l1).mp e
    have my : m = y := by
      rw [z0] at y2
      have := congrArg (· ^^^ y) y2
      simp only [Nat.zero_xor] at this
      rw [xx] at this
      exact this.symm
    refine ⟨fun _ => ?_, fun n => absurd ((f4 m).mp (my ▸ y1)) n⟩
    simp only [b0]
    rw [l0]; rfl
  | some a =>
    refine ⟨fun s => ?_, fun _ => ?_⟩
    · exfalso
      have : (lred hs (m, 0)).1 = 0 := red_zero R.nd (fun e he => (R.own e he).2.2) R.oth (by rw [y2]; exact Spn.xor ((f4 m).mpr s) y1) l3
      rw [this] at e
      cases e
    · show (lput hs a _).length = _
      unfold lput
      rw [List.length_append, List.length_map, l0]
      rfl
end Es
namespace Es
theorem lt_take {ms : List Nat} (h : ∀ x ∈ ms, x < 2 ^ 63) (k : Nat) : ∀ x ∈ ms.take k, x < 2 ^ 63 := fun x hx => h x (List.mem_of_mem_take hx)
theorem getD_lt {ms : List Nat} (h : ∀ x ∈ ms, x < 2 ^ 63) (k : Nat) : ms.getD k 0 < 2 ^ 63 := by
  rw [List.getD_eq_getElem?_getD]
  by_cases hk : k < ms.length
  · rw [List.getElem?_eq_getElem hk]; exact h _ (List.getElem_mem hk)
  · rw [List.getElem?_eq_none (by omega)]; decide
theorem take_snoc {ms : List Nat} {k : Nat} (hk : k < ms.length) : ms.take (k + 1) = ms.take k ++ [ms.getD k 0] := by
  rw [List.take_succ_eq_append_getElem hk, List.getD_eq_getElem?_getD, List.getElem?_eq_getElem hk]
  rfl
theorem rank_grows {ms : List Nat} (hm : ∀ x ∈ ms, x < 2 ^ 63) (hl : ms.length ≤ 62) {k : Nat} (hk : k < ms.length) :
    lrank (ms.take (k + 1)) = lrank (ms.take k) + (if k ∈ (elim ms).2.1.map (·.1) then 0 else 1) := by
  have O := elim_ok ms hm hl
  obtain ⟨a, b⟩ := lrank_snoc (lt_take hm k) (getD_lt hm k)
  rw [take_snoc hk]
  by_cases h : k ∈ (elim ms).2.1.map (·.1)
  · rw [if_pos h, a ((O.dep k hk).mp h), Nat.add_zero]
  · rw [if_neg h, b fun s => h ((O.dep k hk).mpr s)]
theorem lrank_count {ms : List Nat} (hm : ∀ x ∈ ms, x < 2 ^ 63) (hl : ms.length ≤ 62) : ∀ n, n ≤ ms.length →
    lrank (ms.take n) = ((List.range n).filter fun k => decide (k ∉ (elim ms).2.1.map (·.1))).length
  | 0, _ => by simp [lrank_nil]
  | n + 1, h => by
    rw [rank_grows hm hl (by omega), lrank_count hm hl n (by omega), List.range_succ, List.filter_append, List.length_append]
    congr 1
    by_cases q : n ∈ (elim ms).2.1.map (·.1)
    · rw [if_pos q, List.filter_cons, if_neg (by simp only [decide_eq_true_eq]; exact fun z => z q)]; rfl
    · rw [if_neg q, List.filter_cons, if_pos (by simp only [decide_eq_true_eq]; exact q)]; rfl
theorem lrank_indep {ms : List Nat} (hm : ∀ x ∈ ms, x < 2 ^ 63) (hl : ms.length ≤ 62) : lrank ms = (indep ms).length := by
  have := lrank_count hm hl ms.length (Nat.le_refl _)
  rwa [List.take_length] at this
theorem indep_all {ms : List Nat} (hm : ∀ x ∈ ms, x < 2 ^ 63) (hl : ms.length ≤ 62) (h : (elim ms).2.1 = []) : lrank ms = ms.length := by
  rw [lrank_indep hm hl]
  unfold indep
  rw [h, List.filter_eq_self.mpr fun a _ => by simp, List.length_range]
end Es
set_option Elab.async false
set_option linter.all false
set_option maxRecDepth 100000
set_option maxHeartbeats 4000000
namespace Es
open PySem PySem.Spec PyProof.Rows L2
def But (b : Addr) (H H' : Hp) : Prop := ∀ a o, a ≠ b → H a = some o → H' a = some o
theorem But.refl (b : Addr) (H : Hp) : But b H H := fun _ _ _ h => h
theorem But.trans {b : Addr} {H H1 H2 : Hp} (h : But b H H1) (k : But b H1 H2) : But b H H2 := fun a o n e => k a o n (h a o n e)
theorem But.same {b : Addr} {H H' : Hp} (h : Same H H') : But b H H' := fun a o _ e => h a o e
theorem same_new {H : Hp} {p : Addr} {o : HO} (h : H p = none) : Same H (upd H p o) := fun b x e => by
  rw [upd_ne (ne_of_none e h)]
  exact e
theorem But.new {b : Addr} {H : Hp} {p : Addr} {o : HO} (h : H p = none) : But b H (upd H p o) := But.same (same_new h)
theorem But.at_ {b : Addr} {H : Hp} {o : HO} : But b H (upd H b o) := fun a x n e => by
  rw [upd_ne n]
  exact e
theorem same_mut {H H' : Hp} {p : Addr} {o : HO} (s : Same H H') (h : H p = none) : Same H (upd H' p o) := fun b x e => by
  rw [upd_ne (ne_of_none e h)]
  exact s b x e
theorem sqT_same {K : PySem.W.Frag} {H H' : Hp} {a : Addr} {xs : List V} (s : Same H H') (h : SqT K H a xs) : SqT K H' a xs := by
  rcases h with (h | ⟨o, h⟩) | h
  · exact .inl (.inl (s _ _ h))
  · exact .inl (.inr ⟨o, s _ _ h⟩)
  · exact .inr h
theorem sqT_but {K : PySem.W.Frag} {H H' : Hp} {a b : Addr} {xs ys : List V} (hb : H b = some (.lst ys)) (s : But b H H') (h : SqT K H a xs) : SqT K H' a xs := by
  rcases h with (h | ⟨o, h⟩) | h
  · exact .inl (.inl (s _ _ (ne_of h hb (by intro z; cases z)) h))
  · exact .inl (.inr ⟨o, s _ _ (ne_of h hb (by intro z; cases z)) h⟩)
  · exact .inr h
def iv (l : List Nat) : List V := l.map fun (n : Nat) => V.int (n : Int)
theorem iv_len (l : List Nat) : (iv l).length = l.length := by simp [iv]
theorem iv_get {l : List Nat} {i : Nat} {x : V} (h : (iv l)[i]? = some x) : ∃ n, l[i]? = some n ∧ x = .int (n : Int) := by
  unfold iv at h
  rw [List.getElem?_map] at h
  cases e : l[i]? with
  | none => rw [e] at h; cases h
  | some n => rw [e] at h; exact ⟨n, rfl, (Option.some.inj h).symm⟩
def SumV (K : PySem.W.Frag) (H : Hp) (v : V) (m : Nat) : Prop := ∃ a, v = .ref a ∧ SqT K H a (iv (bts m))
theorem SumV.same {K : PySem.W.Frag} {H H' : Hp} {v : V} {m : Nat} (s : Same H H') (h : SumV K H v m) : SumV K H' v m := by
  obtain ⟨a, e, h⟩ := h
  exact ⟨a, e, sqT_same s h⟩
theorem SumV.but {K : PySem.W.Frag} {H H' : Hp} {v : V} {m : Nat} {b : Addr} {ys : List V} (hb : H b = some (.lst ys)) (s : But b H H') (h : SumV K H v m) : SumV K H' v m := by
  obtain ⟨a, e, h⟩ := h
  exact ⟨a, e, sqT_but hb s h⟩
theorem Paired.get {α β : Type} {R : α → β → Prop} : ∀ {xs : List α} {ys : List β} {i : Nat} {x : α}, Paired R xs ys → xs[i]? = some x → ∃ y, ys[i]? = some y ∧ R x y
  | _, _, i, x, .nil, h => by simp at h
  | _, _, 0, x, .cons r _, h => by
    have h := Option.some.inj h
    subst h
    exact ⟨_, rfl, r⟩
  | _, _, i + 1, x, .cons _ t, h => Paired.get (i := i) t (by simpa using h)
theorem Paired.mono2 {α β : Type} {R S : α → β → Prop} (f : ∀ a b, R a b → S a b) : ∀ {xs : List α} {ys : List β}, Paired R xs ys → Paired S xs ys
  | _, _, .nil => .nil
  | _, _, .cons r t => .cons (f _ _ r) (Paired.mono2 f t)
theorem Paired.len {α β : Type} {R : α → β → Prop} : ∀ {xs : List α} {ys : List β}, Paired R xs ys → xs.length = ys.length
  | _, _, .nil => rfl
  | _, _, .cons _ t => congrArg (· + 1) (Paired.len t)
theorem sums_same {K : PySem.W.Frag} {H H' : Hp} {us : List V} {ms : List Nat} (s : Same H H') (h : Paired (SumV K H) us ms) : Paired (SumV K H') us ms := Paired.mono2 (fun _ _ => SumV.same s) h
theorem sums_but {K : PySem.W.Frag} {H H' : Hp} {us : List V} {ms : List Nat} {b : Addr} {ys : List V} (hb : H b = some (.lst ys)) (s : But b H H') (h : Paired (SumV K H) us ms) : Paired (SumV K H') us ms := Paired.mono2 (fun _ _ => SumV.but hb s) h
def DictM (kvs : List (Key × V)) (m : Nat) : Prop := ∃ ks : List Nat, kvs = ks.map (fun (u : Nat) => ((Sum.inl (u : Int) : Key), V.bl true)) ∧ ks.Nodup ∧ ∀ u, u ∈ ks ↔ u < 63 ∧ m.testBit u = true
theorem dictM_nil : DictM [] 0 := ⟨[], rfl, List.nodup_nil, fun u => by simp⟩
theorem key_inj {a b : Nat} (h : (Sum.inl (a : Int) : Key) = Sum.inl (b : Int)) : a = b := by
  have h := Sum.inl.inj h
  omega
theorem dictM_val {kvs : List (Key × V)} {m u : Nat} (h : DictM kvs m) (hu : u < 63) : (valV kvs (Sum.inl (u : Int) : Key)).isSome = m.testBit u := by
  obtain ⟨ks, rfl, nd, hk⟩ := h
  rw [← valV_any]
  cases e : m.testBit u with
  | true =>
    refine List.any_eq_true.mpr ⟨(Sum.inl (u : Int), V.bl true), List.mem_map.mpr ⟨u, (hk u).mpr ⟨hu, e⟩, rfl⟩, by simp⟩
  | false =>
    rw [List.any_eq_false]
    intro x hx
    obtain ⟨v, hv, rfl⟩ := List.mem_map.mp hx
    simp only [decide_eq_true_eq]
    intro z
    have z := key_inj z
    subst z
    rw [((hk v).mp hv).2] at e
    cases e
theorem bit_toggle {m u v : Nat} : (m ^^^ 2 ^ u).testBit v = (if v = u then !m.testBit v else m.testBit v) := by
  rw [Nat.testBit_xor]
  by_cases e : v = u
  · subst e
    rw [if_pos rfl, Nat.testBit_two_pow_self]
    cases m.testBit v <;> rfl
  · rw [if_neg e, Nat.testBit_two_pow_of_ne (Ne.symm e)]
    cases m.testBit v <;> rfl
theorem dictM_drop {kvs : List (Key × V)} {m u : Nat} (h : DictM kvs m) (hb : m.testBit u = true) : DictM (dropK kvs (Sum.inl (u : Int) : Key)) (m ^^^ 2 ^ u) := by
  obtain ⟨ks, rfl, nd, hk⟩ := h
  refine ⟨ks.filter (fun v => decide (v ≠ u)), ?_, nd.filter _, fun v => ?_⟩
  · unfold dropK
    rw [List.filter_map]
    congr 1
    refine List.filter_congr fun v _ => ?_
    show decide ((Sum.inl (v : Int) : Key) ≠ Sum.inl (u : Int)) = decide (v ≠ u)
    by_cases e : v = u
    · subst e; simp
    · rw [decide_eq_true e]
      exact decide_eq_true fun z => e (key_inj z)
  · rw [List.mem_filter, hk, bit_toggle, decide_eq_true_eq]
    by_cases e : v = u
    · subst e
      rw [if_pos rfl, hb]
      simp
    · rw [if_neg e]
      exact ⟨fun x => x.1, fun x => ⟨x, e⟩⟩
theorem dictM_put {kvs : List (Key × V)} {m u : Nat} (h : DictM kvs m) (hu : u < 63) (hb : m.testBit u = false) : DictM (putK kvs (Sum.inl (u : Int) : Key) (.bl true)) (m ^^^ 2 ^ u) := by
  have hv := dictM_val h hu
  rw [hb] at hv
  have hn : valV kvs (Sum.inl (u : Int) : Key) = none := by
    cases e : valV kvs (Sum.inl (u : Int) : Key) with
    | none => rfl
    | some x => rw [e] at hv; cases hv
  rw [putK_new _ hn]
  obtain ⟨ks, rfl, nd, hk⟩ := h
  have nu : u ∉ ks := fun z => by rw [((hk u).mp z).2] at hb; cases hb
  refine ⟨ks ++ [u], by simp, ?_, fun v => ?_⟩
  · refine List.nodup_append.mpr ⟨nd, by simp, fun a ha b hb' => ?_⟩
    have hb' : b = u := by simpa using hb'
    subst hb'
    exact fun z => nu (z ▸ ha)
  · rw [List.mem_append, hk, bit_toggle]
    by_cases e : v = u
    · subst e
      rw [if_pos rfl, hb]
      simp [hu]
    · rw [if_neg e]
      simp [e]
theorem dictM_len {kvs : List (Key × V)} {m : Nat} (h : DictM kvs m) : kvs.length ≤ 63 := by
  obtain ⟨ks, rfl, nd, hk⟩ := h
  rw [List.length_map]
  have : ks.Perm (bts m) := (List.perm_ext_iff_of_nodup nd ((bts_lt m).imp fun h => Nat.ne_of_lt h)).mpr fun u => by rw [hk, mem_bts]
  rw [this.length_eq]
  exact bts_len m
theorem dictM_keys {kvs : List (Key × V)} {m : Nat} (h : DictM kvs m) : ∃ ks : List Int, kvs.map (·.1) = ks.map Sum.inl ∧ ks.length < 64 ∧ ∀ ys : List Int, ys.Perm ks → ys.Pairwise (· ≤ ·) → ys.map V.int = iv (bts m) := by
  have hl := dictM_len h
  obtain ⟨ks, rfl, nd, hk⟩ := h
  refine ⟨ks.map Int.ofNat, by simp [List.map_map, Function.comp_def], by simp at hl ⊢; omega, fun ys hp hs => ?_⟩
  have hy : ∀ y ∈ ys, ∃ u : Nat, y = Int.ofNat u := fun y m => by
    have := hp.mem_iff.mp m
    obtain ⟨u, _, e⟩ := List.mem_map.mp this
    exact ⟨u, e.symm⟩
  have ey : ys = (ys.map Int.toNat).map Int.ofNat := by
    rw [List.map_map]
    conv => lhs; rw [← List.map_id ys]
    refine List.map_congr_left fun y m => ?_
    obtain ⟨u, rfl⟩ := hy y m
    rfl
  have hnd : ys.Nodup := hp.nodup_iff.mpr (List.Pairwise.map _ (fun a b h e => h (Int.ofNat.inj e)) nd)
  have hlt : (ys.map Int.toNat).Pairwise (· < ·) := by
    rw [List.pairwise_map]
    refine (hs.and hnd).imp_of_mem ?_
    intro a b ha hb hab
    obtain ⟨u, rfl⟩ := hy a ha
    obtain ⟨v, rfl⟩ := hy b hb
    obtain ⟨h1, h2⟩ := hab
    have : u ≤ v := by simpa using h1
    have : u ≠ v := fun z => h2 (by rw [z])
    show u < v
    omega
  have hmem : ∀ u, u ∈ ys.map Int.toNat ↔ u < 63 ∧ m.testBit u = true := fun u => by
    rw [← hk]
    constructor
    · intro h
      obtain ⟨y, hy1, e⟩ := List.mem_map.mp h
      obtain ⟨v, hv, e2⟩ := List.mem_map.mp (hp.mem_iff.mp hy1)
      subst e2
      have e : v = u := e
      rw [← e]
      exact hv
    · intro h
      exact List.mem_map.mpr ⟨Int.ofNat u, hp.mem_iff.mpr (List.mem_map.mpr ⟨u, h, rfl⟩), rfl⟩
  have e := bts_of hlt hmem
  rw [ey, ← e]
  unfold iv
  rw [List.map_map]
  rfl
def xall (ms : List Nat) : Nat := ms.foldl (· ^^^ ·) 0
theorem xall_nil : xall [] = 0 := rfl
theorem xall_snoc (ms : List Nat) (m : Nat) : xall (ms ++ [m]) = xall ms ^^^ m := by simp [xall]
theorem xall_take {ms : List Nat} {i : Nat} {m : Nat} (h : ms[i]? = some m) : xall (ms.take (i + 1)) = xall (ms.take i) ^^^ m := by
  obtain ⟨hi, e⟩ := List.getElem?_eq_some_iff.mp h
  rw [List.take_succ_eq_append_getElem hi, e, xall_snoc]
theorem xall_lt {ms : List Nat} (h : ∀ m ∈ ms, m < 2 ^ 63) : xall ms < 2 ^ 63 := by
  have : ∀ (l : List Nat) (a : Nat), a < 2 ^ 63 → (∀ m ∈ l, m < 2 ^ 63) → l.foldl (· ^^^ ·) a < 2 ^ 63 := by
    intro l
    induction l with
    | nil => intro a ha _; exact ha
    | cons m l ih =>
      intro a ha hm
      exact ih _ (xor_lt ha (hm m List.mem_cons_self)) fun x hx => hm x (List.mem_cons_of_mem _ hx)
  exact this ms 0 (by decide) h
def msk (l : List Nat) : Nat := xall (l.map (2 ^ ·))
theorem msk_take {l : List Nat} {j u : Nat} (h : l[j]? = some u) : msk (l.take (j + 1)) = msk (l.take j) ^^^ 2 ^ u := by
  unfold msk
  rw [List.map_take, List.map_take]
  exact xall_take (by rw [List.getElem?_map, h]; rfl)
theorem msk_bit {l : List Nat} (nd : l.Nodup) (v : Nat) : (msk l).testBit v = decide (v ∈ l) := by
  suffices h : ∀ n, ∀ l : List Nat, l.length = n → l.Nodup → (msk l).testBit v = decide (v ∈ l) from h _ l rfl nd
  intro n
  induction n with
  | zero =>
    intro l hl _
    have : l = [] := List.length_eq_zero_iff.mp hl
    subst this
    simp [msk, xall]
  | succ n ih =>
    intro l hl nd
    have hne : l ≠ [] := by intro z; subst z; cases hl
    obtain ⟨pre, u, rfl⟩ : ∃ pre u, l = pre ++ [u] := ⟨l.dropLast, l.getLast hne, (List.dropLast_concat_getLast hne).symm⟩
    obtain ⟨n1, n2, n3⟩ := List.nodup_append.mp nd
    have e : msk (pre ++ [u]) = msk pre ^^^ 2 ^ u := by
      unfold msk
      rw [List.map_append]
      exact xall_snoc _ _
    rw [e, bit_toggle, ih pre (by simpa using hl) n1]
    by_cases z : v = u
    · subst z
      have : v ∉ pre := fun m => n3 v m v (by simp) rfl
      simp [this]
    · rw [if_neg z]
      simp [z]
theorem bts_nodup (m : Nat) : (bts m).Nodup := (bts_lt m).imp fun h => Nat.ne_of_lt h
theorem msk_bts {m : Nat} (h : m < 2 ^ 63) : msk (bts m) = m := by
  refine Nat.eq_of_testBit_eq fun u => ?_
  rw [msk_bit (bts_nodup m)]
  by_cases hu : u < 63
  · cases e : m.testBit u with
    | true => exact decide_eq_true (mem_bts.mpr ⟨hu, e⟩)
    | false => exact decide_eq_false fun z => by rw [(mem_bts.mp z).2] at e; cases e
  · rw [bit_ge h (by omega)]
    exact decide_eq_false fun z => hu (mem_bts.mp z).1
def lookB {β : Type} (bs : List (Nat × β)) (h : Nat) : Option β := (bs.find? fun b => decide (b.1 = h)).map (·.2)
def DictR {β : Type} (S : V → β → Prop) : List (Key × V) → List (Nat × β) → Prop := Paired fun kv b => kv.1 = Sum.inl (b.1 : Int) ∧ S kv.2 b.2
theorem DictR.imp {β : Type} {S S' : V → β → Prop} (f : ∀ v b, S v b → S' v b) {kvs : List (Key × V)} {bs : List (Nat × β)} (h : DictR S kvs bs) : DictR S' kvs bs :=
  Paired.mono2 (fun _ _ h => ⟨h.1, f _ _ h.2⟩) h
theorem DictR.val {β : Type} {S : V → β → Prop} {h : Nat} : ∀ {kvs : List (Key × V)} {bs : List (Nat × β)}, DictR S kvs bs →
    (lookB bs h = none → valV kvs (Sum.inl (h : Int) : Key) = none) ∧ (∀ b, lookB bs h = some b → ∃ v, valV kvs (Sum.inl (h : Int) : Key) = some v ∧ S v b)
  | _, _, .nil => ⟨fun _ => rfl, fun _ e => by cases e⟩
  | kv :: kvs, b :: bs, .cons ⟨r1, r2⟩ t => by
    obtain ⟨i1, i2⟩ := DictR.val (h := h) (show DictR S kvs bs from t)
    by_cases e : b.1 = h
    · have e1 : kv.1 = Sum.inl (h : Int) := by rw [r1, e]
      have l : lookB (b :: bs) h = some b.2 := by simp [lookB, List.find?_cons, e]
      rw [l, valV_pos e1]
      refine ⟨(fun z => by cases z), fun c z => ?_⟩
      have z := Option.some.inj z
      subst z
      exact ⟨_, rfl, r2⟩
    · have e1 : ¬ kv.1 = Sum.inl (h : Int) := fun z => e (key_inj (r1.symm.trans z))
      have l : lookB (b :: bs) h = lookB bs h := by simp [lookB, List.find?_cons, e]
      rw [l, valV_neg e1]
      exact ⟨i1, i2⟩
theorem DictR.put {β : Type} {S : V → β → Prop} {kvs : List (Key × V)} {bs : List (Nat × β)} {h : Nat} {v : V} {b : β} (d : DictR S kvs bs) (no : lookB bs h = none) (s : S v b) :
    DictR S (putK kvs (Sum.inl (h : Int) : Key) v) (bs ++ [(h, b)]) := by
  rw [putK_new _ (d.val.1 no)]
  exact PySem.Paired.snoc d ⟨rfl, s⟩
theorem low_cons {m h : Nat} (e : low m = some h) : ∃ t, bts m = h :: t := by
  unfold low at e
  cases q : bts m with
  | nil => rw [q] at e; cases e
  | cons x t =>
    rw [q] at e
    have e : x = h := Option.some.inj e
    subst e
    exact ⟨t, rfl⟩
theorem low_nil {m : Nat} (e : low m = none) : bts m = [] := List.head?_eq_none_iff.mp e
theorem emp_low {m : Nat} : (!(iv (bts m)).isEmpty) = (low m).isSome := by
  unfold low iv
  cases bts m <;> rfl
def PairV (K : PySem.W.Frag) (H : Hp) (v : V) (p : Nat × Nat) : Prop := ∃ t r u, v = .ref t ∧ SqT K H t [r, u] ∧ SumV K H r p.1 ∧ SumV K H u p.2
theorem PairV.same {K : PySem.W.Frag} {H H' : Hp} (s : Same H H') {v : V} {p : Nat × Nat} (h : PairV K H v p) : PairV K H' v p := by
  obtain ⟨t, r, u, e, h1, h2, h3⟩ := h
  exact ⟨t, r, u, e, sqT_same s h1, h2.same s, h3.same s⟩
def OptSum (K : PySem.W.Frag) (H : Hp) (v : V) : Option Nat → Prop
  | none => v = .non
  | some m => SumV K H v m
def sumBy (ms : List Nat) (m : Nat) : Option Nat := if (rest 64 (elim ms).1 m 0).1 = 0 then some (rest 64 (elim ms).1 m 0).2 else none
def lotOf (ms : List Nat) : Option Nat := ((elim ms).2.1.head?).map (·.2)
theorem sqT_updK {K : PySem.W.Frag} {H : Hp} {a b : Addr} {xs : List V} {kvs : List (Key × V)} {o : HO} (hb : H b = some (.dK kvs)) (h : SqT K H a xs) : SqT K (upd H b o) a xs := by
  rcases h with (h | ⟨u, h⟩) | h
  · exact .inl (.inl (by rw [upd_ne (ne_of h hb (by intro z; cases z))]; exact h))
  · exact .inl (.inr ⟨u, by rw [upd_ne (ne_of h hb (by intro z; cases z))]; exact h⟩)
  · exact .inr h
theorem SumV.updK {K : PySem.W.Frag} {H : Hp} {b : Addr} {kvs : List (Key × V)} {o : HO} {v : V} {m : Nat} (hb : H b = some (.dK kvs)) (h : SumV K H v m) : SumV K (upd H b o) v m := by
  obtain ⟨a, e, h⟩ := h
  exact ⟨a, e, sqT_updK hb h⟩
theorem PairV.updK {K : PySem.W.Frag} {H : Hp} {b : Addr} {kvs : List (Key × V)} {o : HO} {v : V} {p : Nat × Nat} (hb : H b = some (.dK kvs)) (h : PairV K H v p) : PairV K (upd H b o) v p := by
  obtain ⟨t, r, u, e, h1, h2, h3⟩ := h
  exact ⟨t, r, u, e, sqT_updK hb h1, h2.updK hb, h3.updK hb⟩
theorem bts_pow {i : Nat} (h : i < 63) : bts (2 ^ i) = [i] := by
  refine (bts_of (by simp) fun u => ?_).symm
  by_cases e : u = i
  · subst e
    simp [h]
  · rw [Nat.testBit_two_pow_of_ne (Ne.symm e)]
    simp [e]
theorem pow_lt63 {i : Nat} (h : i < 63) : 2 ^ i < 2 ^ 63 := Nat.pow_lt_pow_right (by decide) h
theorem for_enum {K : PySem.W.Frag} {a : Addr} {xs : List V} {g : TG} {tb : TS} {D : Ends} {σ : L2.St} {H : Hp} (Pv : Nat → L2.St → Hp → Prop) (h0 : Pv 0 σ H) (hl : ∀ i σ H, Pv i σ H → SqL K H a xs)
    (hs : ∀ i x T σ H, xs[i]? = some x → Pv i σ H → H T = none → g (.ref T) σ (upd H T (.tup [.int (i : Nat), x])) fun σ2 H2 => tb { D with nx := Pv (i + 1), ct := Pv (i + 1), bk := D.nx } σ2 H2)
    (hd : ∀ σ H, Pv xs.length σ H → D.nx σ H) :
    ∃ W : Nat → Nat → L2.St → Hp → Prop, (∃ m, W 0 m σ H) ∧ ∀ i m σ H, W i m σ H →
      ((Ite K a).stop i H ∧ D.nx σ H) ∨ ((Ite K a).go i H ∧ ∃ N : L2.St → Hp → Prop, (∀ σ' H', N σ' H' → ∃ m', m' < m ∧ W (i + 1) m' σ' H') ∧ ∀ x H', (Ite K a).yld i H x H' → g x σ H' fun σ2 H2 => tb { D with nx := N, ct := N, bk := D.nx } σ2 H2) := by
  refine ⟨fun i m σ H => i + m = xs.length ∧ Pv i σ H, ⟨xs.length, Nat.zero_add _, h0⟩, ?_⟩
  intro i m σ H hw
  obtain ⟨hm, p⟩ := hw
  have q := hl i σ H p
  by_cases lt : i < xs.length
  · refine .inr ⟨⟨xs, xs[i], q, List.getElem?_eq_getElem lt⟩, Pv (i + 1), fun σ' H' p' => ⟨m - 1, by omega, by omega, p'⟩, ?_⟩
    rintro x H' ⟨T, y, rfl, nT, rfl, f⟩
    have ey := (f xs q).symm.trans (List.getElem?_eq_getElem lt)
    have ey := Option.some.inj ey
    subst ey
    exact hs i _ T σ H (List.getElem?_eq_getElem lt) p nT
  · have e : i = xs.length := by omega
    subst e
    exact .inl ⟨⟨xs, q, Nat.le_refl _⟩, hd σ H p⟩
theorem cut_ints (cs : List Int) (lo hi : Option Int) (h : ∀ n ∈ cs, 0 ≤ n) : ∃ ds : List Int, cutV (cs.map V.int) lo hi = ds.map V.int ∧ (∀ n ∈ ds, 0 ≤ n) ∧ ds.length ≤ cs.length := by
  have hl := cutV_length (cs.map V.int) lo hi
  unfold cutV at hl ⊢
  rw [← List.map_drop, ← List.map_take] at hl ⊢
  refine ⟨_, rfl, fun n hn => h n (List.mem_of_mem_drop (List.mem_of_mem_take hn)), ?_⟩
  simpa using hl
end Es
set_option Elab.async false
set_option linter.all false
set_option maxRecDepth 100000
set_option maxHeartbeats 4000000
namespace Es
open PySem PySem.Spec PyProof.Rows L2
theorem and_one (n : Nat) : Builtin.bitAnd (n : Int) 1 = ((n % 2 : Nat) : Int) := by
  rw [bitAnd_pp (Int.natCast_nonneg _) (by decide)]
  show ((n &&& 1 : Nat) : Int) = _
  rw [Nat.and_one_is_mod]
theorem shr_nat (m u : Nat) : (m : Int) / 2 ^ ((u : Int).toNat) = ((m / 2 ^ u : Nat) : Int) := by
  rw [Int.toNat_natCast]
  norm_cast
theorem shr_and (m u : Nat) : Builtin.bitAnd ((m : Int) / 2 ^ ((u : Int).toNat)) 1 = if m.testBit u = true then 1 else 0 := by
  rw [shr_nat, and_one]
  have e : m.testBit u = decide (m / 2 ^ u % 2 = 1) := Nat.testBit_eq_decide_div_mod_eq
  rw [e]
  by_cases h : m / 2 ^ u % 2 = 1
  · rw [if_pos (decide_eq_true h), h]; rfl
  · rw [if_neg (by simp [h])]
    have : m / 2 ^ u % 2 = 0 := by omega
    rw [this]; rfl
theorem xor_nat (a b : Nat) : Builtin.bitXor (a : Int) (b : Int) = ((a ^^^ b : Nat) : Int) := by
  rw [Bits.bitXor_pp (Int.natCast_nonneg _) (Int.natCast_nonneg _), Int.toNat_natCast, Int.toNat_natCast]
theorem or_nat (a b : Nat) : Builtin.bitOr (a : Int) (b : Int) = ((a ||| b : Nat) : Int) := by
  rw [Bits.bitOr_pp (Int.natCast_nonneg _) (Int.natCast_nonneg _), Int.toNat_natCast, Int.toNat_natCast]
theorem shl_one (u : Nat) : (1 : Int) * 2 ^ ((u : Int).toNat) = ((2 ^ u : Nat) : Int) := by
  rw [Int.toNat_natCast]
  norm_cast
  rw [Nat.one_mul]
theorem and_negG {m l : Nat} (h2 : m.testBit l = true) (h3 : ∀ j, j < l → m.testBit j = false) : Builtin.bitAnd (m : Int) (-(m : Int)) = ((2 ^ l : Nat) : Int) := by
  have z : m % 2 ^ l = 0 := by
    refine Nat.eq_of_testBit_eq fun j => ?_
    rw [Nat.testBit_mod_two_pow, Nat.zero_testBit]
    by_cases hj : j < l
    · rw [h3 j hj, Bool.and_false]
    · rw [decide_eq_false hj, Bool.false_and]
  have o : m / 2 ^ l % 2 = 1 := by
    have := h2
    rw [Nat.testBit_eq_decide_div_mod_eq] at this
    exact of_decide_eq_true this
  have p0 : 0 < 2 ^ l := Nat.two_pow_pos l
  obtain ⟨q, hq⟩ : ∃ q, m / 2 ^ l = 2 * q + 1 := ⟨m / 2 ^ l / 2, by omega⟩
  have p1 : 2 ^ (l + 1) = 2 * 2 ^ l := by rw [Nat.pow_succ]; omega
  have em : m = 2 ^ (l + 1) * q + 2 ^ l := by
    have d := Nat.div_add_mod m (2 ^ l)
    rw [z, hq] at d
    have e2 : 2 ^ l * (2 * q + 1) = 2 * (2 ^ l * q) + 2 ^ l := by rw [Nat.mul_add, Nat.mul_one, Nat.mul_left_comm]
    have e3 : 2 ^ (l + 1) * q = 2 * (2 ^ l * q) := by rw [p1, Nat.mul_assoc]
    omega
  have mpos : 0 < m := by omega
  have em1 : m - 1 = 2 ^ (l + 1) * q + (2 ^ l - 1) := by omega
  have ea : m &&& (m - 1) = 2 ^ (l + 1) * q := by
    refine Nat.eq_of_testBit_eq fun j => ?_
    rw [Nat.testBit_and]
    have a1 : m.testBit j = if j < l + 1 then (2 ^ l).testBit j else q.testBit (j - (l + 1)) := by
      conv => lhs; rw [em]
      exact Nat.testBit_two_pow_mul_add q (by omega) j
    have a2 : (m - 1).testBit j = if j < l + 1 then (2 ^ l - 1).testBit j else q.testBit (j - (l + 1)) := by
      rw [em1]
      exact Nat.testBit_two_pow_mul_add q (by omega) j
    have a3 : (2 ^ (l + 1) * q).testBit j = if j < l + 1 then (0 : Nat).testBit j else q.testBit (j - (l + 1)) := by
      have := Nat.testBit_two_pow_mul_add q (b := 0) (i := l + 1) (Nat.two_pow_pos _) j
      rw [Nat.add_zero] at this
      exact this
    rw [a1, a2, a3]
    by_cases hj : j < l + 1
    · rw [if_pos hj, if_pos hj, if_pos hj, Nat.zero_testBit]
      by_cases e : j = l
      · subst e
        rw [Nat.testBit_two_pow_sub_one, decide_eq_false (Nat.lt_irrefl _), Bool.and_false]
      · rw [Nat.testBit_two_pow_of_ne (Ne.symm e), Bool.false_and]
    · rw [if_neg hj, if_neg hj, if_neg hj, Bool.and_self]
  rw [bitAnd_pn (Int.natCast_nonneg _) (by omega), Int.toNat_natCast]
  have eb : (Builtin.bitNot (-(m : Int))).toNat = m - 1 := by
    unfold Builtin.bitNot
    omega
  rw [eb, ea]
  omega
theorem and_neg {m l : Nat} (h : low m = some l) : Builtin.bitAnd (m : Int) (-(m : Int)) = ((2 ^ l : Nat) : Int) := and_negG (low_iff.mp h).2.1 (low_iff.mp h).2.2
theorem bits_pow (l : Nat) : Builtin.Int.intBits ((2 ^ l : Nat) : Int) = l + 1 := by
  unfold Builtin.Int.intBits
  have p : 0 < 2 ^ l := Nat.two_pow_pos l
  have h : ((((2 ^ l : Nat) : Int)) == 0) = false := by
    rw [beq_eq_false_iff_ne]
    omega
  rw [h]
  show (((2 ^ l : Nat) : Int)).natAbs.log2 + 1 = l + 1
  rw [Int.natAbs_natCast, Nat.log2_two_pow]
theorem lt_bits (m : Nat) : m < 2 ^ Builtin.Int.intBits (m : Int) := by
  unfold Builtin.Int.intBits
  by_cases h : m = 0
  · subst h
    decide
  · have e : (((m : Int)) == 0) = false := by
      rw [beq_eq_false_iff_ne]
      omega
    rw [e]
    show m < 2 ^ ((m : Int).natAbs.log2 + 1)
    rw [Int.natAbs_natCast]
    exact Nat.lt_log2_self
end Es
set_option Elab.async false
set_option linter.all false
set_option maxRecDepth 100000
set_option maxHeartbeats 4000000
namespace Es
open PySem PySem.Spec PyProof.Rows L2
def sp_together (K : PySem.W.Frag) : Sp := fun vs H Q _ => ∃ (a : Addr) (us : List V) (ms : List Nat), vs = [.ref a] ∧ SqL K H a us ∧ Paired (SumV K H) us ms ∧ (∀ m ∈ ms, m < 2 ^ 63) ∧
  ∀ H' p, Same H H' → H p = none → H' p = some (.tup (iv (bts (xall ms)))) → Q (.ref p) H'
def sp_rest (K : PySem.W.Frag) : Sp := fun vs H Q _ => ∃ (d : Addr) (kvs : List (Key × V)) (bs : List (Nat × Nat × Nat)) (vr vu : V) (m u : Nat), vs = [.ref d, vr, vu] ∧ H d = some (.dK kvs) ∧ DictR (PairV K H) kvs bs ∧
  (∀ b ∈ bs, low b.2.1 = some b.1 ∧ b.2.1 < 2 ^ 63 ∧ b.2.2 < 2 ^ 63) ∧ SumV K H vr m ∧ SumV K H vu u ∧ m < 2 ^ 63 ∧ u < 2 ^ 63 ∧
  ∀ H' p r v, Same H H' → H p = none → H' p = some (.tup [r, v]) → SumV K H' r (rest 64 bs m u).1 → SumV K H' v (rest 64 bs m u).2 → Q (.ref p) H'
def Sums (K : PySem.W.Frag) (H : Hp) (a : Addr) (us : List V) (ms : List Nat) : Prop := SqL K H a us ∧ Paired (SumV K H) us ms ∧ (∀ m ∈ ms, m < 2 ^ 63) ∧ ms.length ≤ 62
def sp_eliminated (K : PySem.W.Frag) : Sp := fun vs H Q _ => ∃ (a : Addr) (us : List V) (ms : List Nat), vs = [.ref a] ∧ Sums K H a us ms ∧
  ∀ H' p d1 d2 k1 k2, Same H H' → H p = none → H' p = some (.tup [.ref d1, .ref d2]) → H d1 = none → H d2 = none → H' d1 = some (.dK k1) → H' d2 = some (.dK k2) →
    DictR (PairV K H') k1 (elim ms).1 → DictR (SumV K H') k2 (elim ms).2.1 → Q (.ref p) H'
def sp_sum_by (K : PySem.W.Frag) : Sp := fun vs H Q _ => ∃ (a : Addr) (us : List V) (ms : List Nat) (vr : V) (m : Nat), vs = [.ref a, vr] ∧ Sums K H a us ms ∧ SumV K H vr m ∧ m < 2 ^ 63 ∧
  ∀ H' v, Same H H' → OptSum K H' v (sumBy ms m) → Q v H'
def sp_dependent_lot (K : PySem.W.Frag) : Sp := fun vs H Q _ => ∃ (a : Addr) (us : List V) (ms : List Nat), vs = [.ref a] ∧ Sums K H a us ms ∧
  ∀ H' v, Same H H' → OptSum K H' v (lotOf ms) → Q v H'
def sp_independent_among (K : PySem.W.Frag) : Sp := fun vs H Q _ => ∃ (a : Addr) (us : List V) (ms : List Nat), vs = [.ref a] ∧ Sums K H a us ms ∧
  ∀ H' p, Same H H' → H p = none → H' p = some (.lst (iv (indep ms))) → Q (.ref p) H'
def sp_rank_of (K : PySem.W.Frag) : Sp := fun vs H Q _ => ∃ (a : Addr) (us : List V) (ms : List Nat), vs = [.ref a] ∧ Sums K H a us ms ∧
  ∀ H', Same H H' → Q (.int ((indep ms).length : Nat)) H'
def BagAt (K : PySem.W.Frag) (H : Hp) (b c : Addr) : Prop := ∃ (x y z : Int) (cs : List Int), H b = some (.lst [.int x, .int y, .int z, .ref c]) ∧ SqL K H c (cs.map V.int) ∧ b ≠ c ∧ 0 ≤ x ∧ 0 ≤ y ∧ y < 2147483647 ∧ 0 ≤ z ∧ (∀ n ∈ cs, 0 ≤ n) ∧ cs.length ≤ 63
theorem sqL_but {K : PySem.W.Frag} {H H' : Hp} {a b : Addr} {xs : List V} (n : a ≠ b) (s : But b H H') (h : SqL K H a xs) : SqL K H' a xs := by
  rcases h with (h | ⟨o, h⟩) | h
  · exact .inl (.inl (s _ _ n h))
  · exact .inl (.inr ⟨o, s _ _ n h⟩)
  · exact .inr h
theorem BagAt.same {K : PySem.W.Frag} {H H' : Hp} {b c : Addr} (s : Same H H') (h : BagAt K H b c) : BagAt K H' b c := by
  obtain ⟨x, y, z, cs, h1, h2, h3⟩ := h
  exact ⟨x, y, z, cs, s _ _ h1, s.seq h2, h3⟩
theorem BagAt.lst {K : PySem.W.Frag} {H : Hp} {b c : Addr} (h : BagAt K H b c) : ∃ ys, H b = some (.lst ys) := by
  obtain ⟨x, y, z, cs, h1, _⟩ := h
  exact ⟨_, h1⟩
theorem SumV.bag {K : PySem.W.Frag} {H H' : Hp} {b c : Addr} {v : V} {m : Nat} (B : BagAt K H b c) (s : But b H H') (h : SumV K H v m) : SumV K H' v m := by
  obtain ⟨ys, e⟩ := B.lst
  exact h.but e s
theorem sums_bag {K : PySem.W.Frag} {H H' : Hp} {b c : Addr} {us : List V} {ms : List Nat} (B : BagAt K H b c) (s : But b H H') (h : Paired (SumV K H) us ms) : Paired (SumV K H') us ms := by
  obtain ⟨ys, e⟩ := B.lst
  exact sums_but e s h
theorem sqT_bag {K : PySem.W.Frag} {H H' : Hp} {a b c : Addr} {xs : List V} (B : BagAt K H b c) (s : But b H H') (h : SqT K H a xs) : SqT K H' a xs := by
  obtain ⟨ys, e⟩ := B.lst
  exact sqT_but e s h
theorem But.free {b : Addr} {H H' : Hp} (s : But b H H') {a : Addr} (n : a ≠ b) (h : H' a = none) : H a = none := by
  cases e : H a with
  | none => rfl
  | some o =>
    rw [s a o n e] at h
    cases h
def sp_law_take (K : PySem.W.Frag) : Sp := fun vs H Q _ => ∃ (b c : Addr) (n : Nat), vs = [.ref b, .int (n : Int)] ∧ BagAt K H b c ∧ 0 < n ∧ n < 1073741824 ∧
  ∀ H' (r : Nat), But b H H' → BagAt K H' b c → r < n → Q (.int (r : Int)) H'
def Sq (K : PySem.W.Frag) (H : Hp) (a : Addr) (xs : List V) : Prop := SqL K H a xs ∨ SqT K H a xs
def sp_law_some (K : PySem.W.Frag) : Sp := fun vs H Q _ => ∃ (b c l : Addr) (xs : List V), vs = [.ref b, .ref l] ∧ BagAt K H b c ∧ l ≠ b ∧ Sq K H l xs ∧ 0 < xs.length ∧ xs.length < 1073741824 ∧
  ∀ (H' : Hp) (r : Nat) (v : V), But b H H' → BagAt K H' b c → xs[r]? = some v → Q v H'
def sp_law_bag (K : PySem.W.Frag) : Sp := fun vs H Q _ => ∃ (a : Addr) (ns : List Int), vs = [.ref a] ∧ SqL K H a (ns.map V.int) ∧ ns.length ≤ 63 ∧
  ∀ H' b c, Same H H' → H b = none → H c = none → BagAt K H' b c → Q (.ref b) H'
def sp_law_alike (K : PySem.W.Frag) : Sp := fun vs H Q _ => ∃ (x y : V) (d : PyData), vs = [x, y] ∧ Dp K H x d ∧ Dp K H y d ∧ nice d = true ∧ d.depth ≤ 40 ∧ d.weight ≤ 2 ^ 20 ∧ Q (.bl true) H
def sp_law_mask (K : PySem.W.Frag) : Sp := fun vs H Q _ => ∃ (v : V) (m : Nat), vs = [v] ∧ SumV K H v m ∧ m < 2 ^ 63 ∧ Q (.int (m : Int)) H
def sp_law_row (K : PySem.W.Frag) : Sp := fun vs H Q _ => ∃ (m : Nat), vs = [.int (m : Int)] ∧ m < 2 ^ 63 ∧ ∀ H' p, Same H H' → H p = none → H' p = some (.tup (iv (bts m))) → Q (.ref p) H'
def wsum (m : Nat) (bs : List Nat) : Nat := ((bts m).map fun u => bs.getD u 0).sum
def sp_worth_of (K : PySem.W.Frag) : Sp := fun vs H Q _ => ∃ (v : V) (b : Addr) (m : Nat) (bs : List Nat), vs = [v, .ref b] ∧ SumV K H v m ∧ SqT K H b (iv bs) ∧ (∀ u ∈ bts m, u < bs.length) ∧
  ∀ H', Same H H' → Q (.int ((wsum m bs % 2 : Nat) : Int)) H'
def sp_law_worth (K : PySem.W.Frag) : Sp := sp_worth_of K
theorem iv_ints (l : List Nat) : iv l = (l.map Int.ofNat).map V.int := by
  unfold iv
  rw [List.map_map]
  rfl
theorem sum_nat : ∀ l : List Nat, (l.map Int.ofNat).sum = ((l.sum : Nat) : Int)
  | [] => rfl
  | x :: l => by
    rw [List.map_cons, List.sum_cons, List.sum_cons, sum_nat l]
    simp
def LineV (K : PySem.W.Frag) (H : Hp) (v : V) (l : Nat × Nat) : Prop := ∃ t r, v = .ref t ∧ SqT K H t [r, .int (l.2 : Int)] ∧ SumV K H r l.1
theorem LineV.same {K : PySem.W.Frag} {H H' : Hp} (s : Same H H') {v : V} {l : Nat × Nat} (h : LineV K H v l) : LineV K H' v l := by
  obtain ⟨t, r, e, h1, h2⟩ := h
  exact ⟨t, r, e, sqT_same s h1, h2.same s⟩
def sp_law_flat_of (K : PySem.W.Frag) : Sp := fun vs H Q _ => ∃ (a : Addr) (us : List V) (ls : List (Nat × Nat)), vs = [.ref a] ∧ SqL K H a us ∧ Paired (LineV K H) us ls ∧ (∀ l ∈ ls, l.1 < 2 ^ 63) ∧
  (lflat ls = none → ∀ H', Same H H' → Q .non H') ∧
  (∀ hs, lflat ls = some hs → ∀ H' p ys, Same H H' → H p = none → H' p = some (.tup ys) → ys.length = hs.length → Q (.ref p) H')
def sp_law_rank (K : PySem.W.Frag) : Sp := fun vs H Q _ => ∃ (a : Addr) (us : List V) (ms : List Nat), vs = [.ref a] ∧ SqL K H a us ∧ Paired (SumV K H) us ms ∧ (∀ m ∈ ms, m < 2 ^ 63) ∧ ms.length ≤ 100 ∧
  ∀ H', Same H H' → Q (.int ((lrank ms : Nat) : Int)) H'
def PairI (K : PySem.W.Frag) (H : Hp) (v : V) (p : Nat × Nat) : Prop := ∃ t, v = .ref t ∧ SqT K H t [.int (p.1 : Int), .int (p.2 : Int)]
theorem PairI.same {K : PySem.W.Frag} {H H' : Hp} (s : Same H H') {v : V} {p : Nat × Nat} (h : PairI K H v p) : PairI K H' v p := by
  obtain ⟨t, e, h⟩ := h
  exact ⟨t, e, sqT_same s h⟩
theorem PairI.updK {K : PySem.W.Frag} {H : Hp} {b : Addr} {kvs : List (Key × V)} {o : HO} {v : V} {p : Nat × Nat} (hb : H b = some (.dK kvs)) (h : PairI K H v p) : PairI K (upd H b o) v p := by
  obtain ⟨t, e, h⟩ := h
  exact ⟨t, e, sqT_updK hb h⟩
theorem DictR.keys {β : Type} {S : V → β → Prop} : ∀ {kvs : List (Key × V)} {bs : List (Nat × β)}, DictR S kvs bs → kvs.map (·.1) = (bs.map fun b => Int.ofNat b.1).map Sum.inl
  | _, _, .nil => rfl
  | kv :: kvs, b :: bs, .cons ⟨r1, _⟩ t => by
    have ih := DictR.keys (show DictR S kvs bs from t)
    rw [List.map_cons, List.map_cons, List.map_cons, ih, r1]
    rfl
theorem DictR.sorted {β : Type} {S : V → β → Prop} {kvs : List (Key × V)} {bs : List (Nat × β)} (d : DictR S kvs bs) (nd : (bs.map (·.1)).Nodup) (h63 : ∀ b ∈ bs, b.1 < 63) :
    (bs.map fun b => Int.ofNat b.1).length < 64 ∧ ∀ ys : List Int, ys.Perm (bs.map fun b => Int.ofNat b.1) → ys.Pairwise (· ≤ ·) → ys.map V.int = iv (srt (bs.map (·.1))) := by
  have hm : ∀ u, u ∈ bs.map (·.1) ↔ u < 63 ∧ (msk (bs.map (·.1))).testBit u = true := fun u => by
    rw [msk_bit nd, decide_eq_true_eq]
    constructor
    · intro h
      obtain ⟨b, hb, e⟩ := List.mem_map.mp h
      exact ⟨e ▸ h63 b hb, h⟩
    · exact fun h => h.2
  obtain ⟨ks, k1, k2, k3⟩ := dictM_keys (kvs := (bs.map (·.1)).map fun (u : Nat) => ((Sum.inl (u : Int) : Key), V.bl true)) ⟨bs.map (·.1), rfl, nd, hm⟩
  have ek : ks = bs.map fun b => Int.ofNat b.1 := by
    have e1 : ks.map (Sum.inl : Int → Key) = (bs.map fun b => Int.ofNat b.1).map Sum.inl := by
      rw [← k1, List.map_map, List.map_map, List.map_map]
      rfl
    exact (List.map_inj_right (fun a b h => Sum.inl.inj h)).mp e1
  subst ek
  refine ⟨k2, fun ys hp hs => ?_⟩
  rw [k3 ys hp hs]
  congr 1
  refine (bts_of (srt_lt _) fun u => ?_).symm
  rw [mem_srt, hm]
  exact ⟨fun h => h.2, fun h => ⟨h.1, h⟩⟩
theorem DictR.set {β : Type} {S : V → β → Prop} {h : Nat} {v : V} {b : β} (s : S v b) {kvs : List (Key × V)} {bs : List (Nat × β)} (d : DictR S kvs bs) (hh : h ∈ bs.map (·.1)) :
    DictR S (putK kvs (Sum.inl (h : Int) : Key) v) (bs.map fun e => if e.1 = h then (h, b) else e) := by
  have go : ∀ {kvs : List (Key × V)} {bs : List (Nat × β)}, DictR S kvs bs → DictR S (kvs.map fun kv => if kv.1 = (Sum.inl (h : Int) : Key) then (kv.1, v) else kv) (bs.map fun e => if e.1 = h then (h, b) else e) := by
    intro kvs bs d
    induction d with
    | nil => exact .nil
    | @cons kv e l1 l2 r t ih =>
      rw [List.map_cons, List.map_cons]
      refine .cons ?_ ih
      by_cases q : e.1 = h
      · have q2 : kv.1 = (Sum.inl (h : Int) : Key) := by rw [r.1, q]
        rw [if_pos q, if_pos q2]
        exact ⟨q2, s⟩
      · have q2 : ¬ kv.1 = (Sum.inl (h : Int) : Key) := fun z => q (key_inj (r.1.symm.trans z))
        rw [if_neg q, if_neg q2]
        exact r
  unfold putK
  have e : (kvs.any fun kv => decide (kv.1 = (Sum.inl (h : Int) : Key))) = true := by
    rw [valV_any]
    obtain ⟨v1, v2⟩ := d.val (h := h)
    cases q : lookB bs h with
    | none =>
      unfold lookB at q
      rw [Option.map_eq_none_iff, List.find?_eq_none] at q
      obtain ⟨x, hx, ex⟩ := List.mem_map.mp hh
      exact absurd (decide_eq_true ex) (q x hx)
    | some b' =>
      obtain ⟨w, ew, _⟩ := v2 b' q
      rw [ew]
      rfl
  rw [if_pos e]
  exact go d
def lputTo (hs : List (Nat × Nat × Nat)) (S : List Nat) (a : Nat) (p : Nat × Nat) : List (Nat × Nat × Nat) :=
  hs.map fun e => if e.1 ∈ S ∧ e.2.1.testBit a = true then (e.1, e.2.1 ^^^ p.1, e.2.2 ^^^ p.2) else e
theorem lputTo_keys (hs : List (Nat × Nat × Nat)) (S : List Nat) (a : Nat) (p : Nat × Nat) : (lputTo hs S a p).map (·.1) = hs.map (·.1) := by
  unfold lputTo
  rw [List.map_map]
  refine List.map_congr_left fun e _ => ?_
  show (if _ then _ else _ : Nat × Nat × Nat).1 = e.1
  split <;> rfl
theorem lputTo_nil (hs : List (Nat × Nat × Nat)) (a : Nat) (p : Nat × Nat) : lputTo hs [] a p = hs := by
  unfold lputTo
  conv => rhs; rw [← List.map_id hs]
  refine List.map_congr_left fun e _ => ?_
  rw [if_neg (by simp)]
  rfl
theorem lputTo_all (hs : List (Nat × Nat × Nat)) (h63 : ∀ e ∈ hs, e.1 < 63) (a : Nat) (p : Nat × Nat) : lputTo hs (srt (hs.map (·.1))) a p ++ [(a, p.1, p.2)] = lput hs a p := by
  unfold lputTo lput
  congr 1
  refine List.map_congr_left fun e he => ?_
  have hm : e.1 ∈ srt (hs.map (·.1)) := mem_srt.mpr ⟨h63 e he, List.mem_map.mpr ⟨e, he, rfl⟩⟩
  by_cases hb : e.2.1.testBit a = true
  · rw [if_pos ⟨hm, hb⟩, if_pos hb]
  · rw [if_neg fun z => hb z.2, if_neg hb]
theorem look_nd : ∀ {hs : List (Nat × Nat × Nat)}, (hs.map (·.1)).Nodup → ∀ {e : Nat × Nat × Nat}, e ∈ hs → look hs e.1 = some e.2
  | [], _, e, h => by cases h
  | x :: hs, nd, e, h => by
    have nd : (x.1 :: hs.map (·.1)).Nodup := nd
    obtain ⟨n1, n2⟩ := List.nodup_cons.mp nd
    rcases List.mem_cons.mp h with rfl | h
    · simp [look, List.find?_cons]
    · have ne : x.1 ≠ e.1 := fun z => n1 (z ▸ List.mem_map.mpr ⟨e, h, rfl⟩)
      have ih := look_nd n2 h
      unfold look at ih ⊢
      rw [List.find?_cons, decide_eq_false ne]
      exact ih
theorem lputTo_step {hs : List (Nat × Nat × Nat)} (nd : (hs.map (·.1)).Nodup) {S : List Nat} {h a : Nat} {p q : Nat × Nat} (hn : h ∉ S) (hq : look hs h = some q) :
    look (lputTo hs S a p) h = some q ∧
    (q.1.testBit a = true → (lputTo hs S a p).map (fun e => if e.1 = h then (h, q.1 ^^^ p.1, q.2 ^^^ p.2) else e) = lputTo hs (S ++ [h]) a p) ∧
    (q.1.testBit a = false → lputTo hs S a p = lputTo hs (S ++ [h]) a p) := by
  have mem := look_mem hq
  have uniq : ∀ e ∈ hs, e.1 = h → e = (h, q) := fun e he z => by
    have := look_nd nd he
    rw [z, hq] at this
    have := Option.some.inj this
    obtain ⟨x, y⟩ := e
    simp only at z this
    rw [z, this]
  refine ⟨?_, fun hb => ?_, fun hb => ?_⟩
  · have m2 : (h, q) ∈ lputTo hs S a p := List.mem_map.mpr ⟨(h, q), mem, if_neg fun z => hn z.1⟩
    exact look_nd (by rw [lputTo_keys]; exact nd) m2
  · unfold lputTo
    rw [List.map_map]
    refine List.map_congr_left fun e he => ?_
    show (if (if e.1 ∈ S ∧ e.2.1.testBit a = true then (e.1, e.2.1 ^^^ p.1, e.2.2 ^^^ p.2) else e).1 = h then (h, q.1 ^^^ p.1, q.2 ^^^ p.2) else (if e.1 ∈ S ∧ e.2.1.testBit a = true then (e.1, e.2.1 ^^^ p.1, e.2.2 ^^^ p.2) else e)) = _
    by_cases z : e.1 = h
    · have e0 := uniq e he z
      subst e0
      have n1 : ¬ ((h, q).1 ∈ S ∧ ((h, q) : Nat × Nat × Nat).2.1.testBit a = true) := fun y => hn y.1
      rw [if_neg n1, if_pos z, if_pos ⟨List.mem_append_right _ (by simp), hb⟩]
    · have k1 : (if e.1 ∈ S ∧ e.2.1.testBit a = true then (e.1, e.2.1 ^^^ p.1, e.2.2 ^^^ p.2) else e).1 = e.1 := by split <;> rfl
      rw [k1, if_neg z]
      by_cases c : e.1 ∈ S ∧ e.2.1.testBit a = true
      · rw [if_pos c, if_pos ⟨List.mem_append_left _ c.1, c.2⟩]
      · rw [if_neg c, if_neg fun y => c ⟨(List.mem_append.mp y.1).resolve_right (by simpa using z), y.2⟩]
  · unfold lputTo
    refine List.map_congr_left fun e he => ?_
    by_cases z : e.1 = h
    · have e0 := uniq e he z
      subst e0
      rw [if_neg fun z => hn z.1, if_neg fun y => by rw [show ((h, q).2.1).testBit a = false from hb] at y; exact absurd y.2 Bool.false_ne_true]
    · by_cases c : e.1 ∈ S ∧ e.2.1.testBit a = true
      · rw [if_pos c, if_pos ⟨List.mem_append_left _ c.1, c.2⟩]
      · rw [if_neg c, if_neg fun y => c ⟨(List.mem_append.mp y.1).resolve_right (by simpa using z), y.2⟩]
theorem lflat_red : ∀ (ls : List (Nat × Nat)), (∀ l ∈ ls, l.1 < 2 ^ 63) → ∀ hs, lflat ls = some hs → RedOk hs := by
  intro ls
  suffices h : ∀ n, ∀ ls : List (Nat × Nat), ls.length = n → (∀ l ∈ ls, l.1 < 2 ^ 63) → ∀ hs, lflat ls = some hs → RedOk hs from h _ ls rfl
  intro n
  induction n with
  | zero =>
    intro ls hl _ hs e
    have : ls = [] := List.length_eq_zero_iff.mp hl
    subst this
    have e : some [] = some hs := e
    have e := Option.some.inj e
    subst e
    exact ⟨List.nodup_nil, (fun e he => by cases he), (fun e he => by cases he)⟩
  | succ n ih =>
    intro ls hl hm hs e
    have hne : ls ≠ [] := by intro z; subst z; cases hl
    obtain ⟨pre, l, rfl⟩ : ∃ pre l, ls = pre ++ [l] := ⟨ls.dropLast, ls.getLast hne, (List.dropLast_concat_getLast hne).symm⟩
    rw [lflat_snoc] at e
    obtain ⟨hs0, e0, e1⟩ := Option.bind_eq_some_iff.mp e
    have R := ih pre (by simpa using hl) (fun x hx => hm x (List.mem_append_left _ hx)) hs0 e0
    obtain ⟨l1, _, l3⟩ := lred_spec R (p := l) (hm l (List.mem_append_right _ List.mem_cons_self))
    unfold lstep at e1
    cases q : low (lred hs0 l).1 with
    | none =>
      rw [q] at e1
      simp only at e1
      split at e1
      · cases e1
      · have e1 := Option.some.inj e1
        subst e1
        exact R
    | some a =>
      rw [q] at e1
      have e1 := Option.some.inj e1
      subst e1
      exact (lput_ok R l1 q l3).1
theorem lflat_take {ls : List (Nat × Nat)} {i : Nat} {l : Nat × Nat} (h : ls[i]? = some l) : lflat (ls.take (i + 1)) = (lflat (ls.take i)).bind fun hs => lstep hs l := by
  obtain ⟨hi, e⟩ := List.getElem?_eq_some_iff.mp h
  rw [List.take_succ_eq_append_getElem hi, e, lflat_snoc]
theorem lflat_none_take {ls : List (Nat × Nat)} {i : Nat} (h : lflat (ls.take i) = none) : lflat ls = none := by
  have : lflat ls = (ls.drop i).foldl (fun o l => o.bind fun hs => lstep hs l) (lflat (ls.take i)) := by
    unfold lflat
    rw [← List.foldl_append, List.take_append_drop]
  rw [this, h]
  generalize ls.drop i = r
  induction r with
  | nil => rfl
  | cons x r ih => exact ih
def sumD (m : Nat) : PyData := .tuple (((bts m).map Int.ofNat).map .int)
def lineD (l : Nat × Nat) : PyData := .tuple [sumD l.1, .int (l.2 : Int)]
theorem dp_ints {K : PySem.W.Frag} {H : Hp} : ∀ ns : List Int, DpAll K H (ns.map V.int) (ns.map .int)
  | [] => .nil
  | n :: ns => .cons (.int n) (dp_ints ns)
theorem dp_sum {K : PySem.W.Frag} {H : Hp} {v : V} {m : Nat} (h : SumV K H v m) : Dp K H v (sumD m) := by
  obtain ⟨a, rfl, h⟩ := h
  rw [iv_ints] at h
  exact .tup h (dp_ints _)
theorem dp_line {K : PySem.W.Frag} {H : Hp} {v : V} {l : Nat × Nat} (h : LineV K H v l) : Dp K H v (lineD l) := by
  obtain ⟨t, r, rfl, h1, h2⟩ := h
  exact .tup h1 (.cons (dp_sum h2) (.cons (.int _) .nil))
theorem depth_ints : ∀ ns : List Int, PyData.depthAll (ns.map .int) = 0
  | [] => rfl
  | n :: ns => by
    show max (PyData.depth (.int n)) (PyData.depthAll (ns.map .int)) = 0
    rw [depth_ints ns]
    rfl
theorem depth_sumD (m : Nat) : (sumD m).depth = 1 := by
  show PyData.depthAll _ + 1 = 1
  rw [depth_ints]
theorem depth_lineD (l : Nat × Nat) : (lineD l).depth = 2 := by
  show max (sumD l.1).depth (max (PyData.depth (.int (l.2 : Int))) 0) + 1 = 2
  rw [depth_sumD]
  rfl
theorem alike_lineD (l k : Nat × Nat) : PySem.W.alike (lineD l) (lineD k) = true := by
  show PySem.W.alikeAll [sumD l.1, .int (l.2 : Int)] [sumD k.1, .int (k.2 : Int)] = true
  have e : PySem.W.alike (sumD l.1) (sumD k.1) = true := PySem.W.alike_ints _ _
  simp [PySem.W.alikeAll, e, PySem.W.alike]
theorem LineV.but {K : PySem.W.Frag} {H H' : Hp} {b : Addr} {ys : List V} (hb : H b = some (.lst ys)) (s : But b H H') {v : V} {l : Nat × Nat} (h : LineV K H v l) : LineV K H' v l := by
  obtain ⟨t, r, e, h1, h2⟩ := h
  exact ⟨t, r, e, sqT_but hb s h1, h2.but hb s⟩
theorem tyT {K : PySem.W.Frag} {H : Hp} {a : Addr} {xs : List V} (h : SqT K H a xs) : TyX K H (.ref a) (.type "tuple") := by
  rcases h with (h | ⟨o, h⟩) | ⟨o, its, n, h, c, _⟩
  · exact .base (.tup h)
  · exact .fTuple h
  · exact .kTuple h c
def rLenK (K : PySem.W.Frag) : List V → Hp → VK → Prop := fun xs H Q => ∃ p ys, xs = [.ref p] ∧ (SqL K H p ys ∨ SqT K H p ys) ∧ Q (.int ys.length) H
def sp_law_any_row (K : PySem.W.Frag) : Sp := fun vs H Q _ => ∃ (b c : Addr) (n : Nat), vs = [.ref b, .int (n : Int)] ∧ BagAt K H b c ∧ 0 < n ∧ n ≤ 62 ∧
  ∀ H' v m, But b H H' → BagAt K H' b c → SumV K H' v m → m < 2 ^ n → m ≠ 0 → Q v H'
def sp_law_is_whole (K : PySem.W.Frag) : Sp := fun vs H Q _ => ∃ (i : Int), vs = [.int i] ∧ Q (.bl true) H
def sp_law_is_in (K : PySem.W.Frag) : Sp := fun vs H Q _ => ∃ (i n : Int), vs = [.int i, .int n] ∧ Q (.bl (decide (0 ≤ i) && decide (i < n))) H
def sp_law_is_sum (K : PySem.W.Frag) : Sp := fun vs H Q _ => ∃ (n m : Nat) (v : V), vs = [.int (n : Int), v] ∧ SumV K H v m ∧ m < 2 ^ n ∧ n ≤ 63 ∧ ∀ H', Same H H' → Q (.bl true) H'
def sp_law_are_some (K : PySem.W.Frag) : Sp := sp_law_is_sum K
def sp_law_all_of (K : PySem.W.Frag) : Sp := fun vs H Q _ => ∃ (a : Addr) (us : List V) (ms : List Nat), vs = [.ref a] ∧ SqL K H a us ∧ Paired (SumV K H) us ms ∧ (∀ m ∈ ms, m < 2 ^ 63) ∧ ms.length ≤ 1000 ∧
  ∀ H' v, Same H H' → SumV K H' v (xall ms) → Q v H'
def sp_law_is_sum_right (K : PySem.W.Frag) : Sp := fun vs H Q _ => ∃ (a : Addr) (us : List V) (ms : List Nat) (v : V) (m : Nat), vs = [.ref a, v] ∧ Sums K H a us ms ∧ SumV K H v m ∧ m < 2 ^ 63 ∧
  ∀ H', Same H H' → Q (.bl true) H'
def sp_law_are_told (K : PySem.W.Frag) : Sp := fun vs H Q _ => ∃ (b c a : Addr) (us : List V) (ms : List Nat) (n : Nat), vs = [.ref b, .int (n : Int), .ref a] ∧ BagAt K H b c ∧ a ≠ b ∧ H a = some (.lst us) ∧ Sums K H a us ms ∧ (∀ m ∈ ms, m < 2 ^ n) ∧ n ≤ 62 ∧
  ∀ H', But b H H' → BagAt K H' b c → Q (.bl true) H'
theorem bits_below {m n u : Nat} (h : m < 2 ^ n) (hu : u ∈ bts m) : u < n := by
  refine Nat.lt_of_not_le fun z => ?_
  have b := (mem_bts.mp hu).2
  rw [Nat.testBit_lt_two_pow (Nat.lt_of_lt_of_le h (Nat.pow_le_pow_right (by decide) z))] at b
  cases b
theorem dp_nil {K : PySem.W.Frag} {H : Hp} {a : Addr} (h : SqL K H a []) : Dp K H (.ref a) (.list []) := .lst h .nil
theorem dp_list {K : PySem.W.Frag} {H : Hp} {a : Addr} {ns : List Int} (h : SqL K H a (ns.map V.int)) : Dp K H (.ref a) (.list (ns.map .int)) := .lst h (dp_ints ns)
theorem eqv_ints : ∀ ns : List Int, PyData.eqvAll (ns.map .int) (ns.map .int) = true
  | [] => rfl
  | n :: ns => by
    show (PyData.eqv (.int n) (.int n) && PyData.eqvAll (ns.map .int) (ns.map .int)) = true
    rw [eqv_ints ns, Bool.and_true]
    exact beq_self_eq_true n
theorem lay_ints : ∀ ns : List Int, PyData.canLayAll0 (ns.map .int) = true
  | [] => rfl
  | n :: ns => by
    show (PyData.canLay0 (.int n) && PyData.canLayAll0 (ns.map .int)) = true
    rw [lay_ints ns]
    rfl
theorem shaped_ints (ns : List Int) : SeqAt.shaped (.list (ns.map .int)) = true := by
  unfold SeqAt.shaped
  rw [Bool.and_eq_true]
  refine ⟨by simpa [PyData.canLay0] using lay_ints ns, decide_eq_true ?_⟩
  show PyData.depthAll (ns.map .int) + 1 ≤ 64
  rw [depth_ints]
  decide
abbrev NumV : V → Nat → Prop := fun v n => v = .int (n : Int)
structure Cnt (bs : List (Nat × Nat)) (m : Nat) : Prop where
  nd : (bs.map (·.1)).Nodup
  lt : ∀ e ∈ bs, e.1 < 63
  bit : ∀ u, u < 63 → m.testBit u = decide (((lookB bs u).getD 0) % 2 = 1)
theorem cnt_nil : Cnt [] 0 := ⟨List.nodup_nil, (fun e he => by cases he), fun u _ => by simp [lookB]⟩
theorem lookB_mem {β : Type} {bs : List (Nat × β)} {h : Nat} {b : β} (e : lookB bs h = some b) : (h, b) ∈ bs := by
  unfold lookB at e
  obtain ⟨x, hx, ex⟩ := Option.map_eq_some_iff.mp e
  have h1 := List.find?_some hx
  have h1 : x.1 = h := of_decide_eq_true h1
  have h2 := List.mem_of_find?_eq_some hx
  obtain ⟨y, z⟩ := x
  simp only at ex h1
  subst ex; subst h1
  exact h2
theorem lookB_none {β : Type} {bs : List (Nat × β)} {h : Nat} : lookB bs h = none ↔ h ∉ bs.map (·.1) := by
  unfold lookB
  rw [Option.map_eq_none_iff, List.find?_eq_none]
  constructor
  · intro k m
    obtain ⟨b, hb, e⟩ := List.mem_map.mp m
    exact k b hb (decide_eq_true e)
  · intro k b hb e
    exact k (List.mem_map.mpr ⟨b, hb, of_decide_eq_true e⟩)
theorem lookB_snoc {β : Type} {bs : List (Nat × β)} {h u : Nat} {b : β} (no : lookB bs h = none) : lookB (bs ++ [(h, b)]) u = if u = h then some b else lookB bs u := by
  unfold lookB at no ⊢
  rw [List.find?_append]
  by_cases e : u = h
  · subst e
    rw [Option.map_eq_none_iff] at no
    rw [no, if_pos rfl]
    simp
  · rw [if_neg e]
    have : ([(h, b)] : List (Nat × β)).find? (fun b => decide (b.1 = u)) = none := by
      simp [Ne.symm e]
    rw [this, Option.or_none]
theorem lookB_set {β : Type} {h u : Nat} {b : β} : ∀ {bs : List (Nat × β)}, h ∈ bs.map (·.1) → lookB (bs.map fun e => if e.1 = h then (h, b) else e) u = if u = h then some b else lookB bs u
  | [], m => by cases m
  | e :: bs, m => by
    by_cases q : e.1 = h
    · by_cases z : u = h
      · subst z
        simp [lookB, List.find?_cons, q]
      · have ih : lookB (bs.map fun e => if e.1 = h then (h, b) else e) u = lookB bs u := by
          by_cases m2 : h ∈ bs.map (·.1)
          · rw [lookB_set m2, if_neg z]
          · congr 1
            conv => rhs; rw [← List.map_id bs]
            refine List.map_congr_left fun x hx => ?_
            rw [if_neg fun w => m2 (List.mem_map.mpr ⟨x, hx, w⟩)]
            rfl
        unfold lookB at ih ⊢
        rw [List.map_cons, if_pos q, List.find?_cons, List.find?_cons]
        have d1 : decide (h = u) = false := decide_eq_false (Ne.symm z)
        have d2 : decide (e.1 = u) = false := decide_eq_false (by rw [q]; exact Ne.symm z)
        simp only [d1, d2, if_neg z]
        exact ih
    · have m2 : h ∈ bs.map (·.1) := by
        rcases List.mem_cons.mp m with w | w
        · exact absurd w.symm q
        · exact w
      have ih := lookB_set (u := u) (b := b) m2
      unfold lookB at ih ⊢
      rw [List.map_cons, if_neg q, List.find?_cons, List.find?_cons]
      by_cases z : e.1 = u
      · have : u ≠ h := fun w => q (z.trans w)
        simp [z, this]
      · have d2 : decide (e.1 = u) = false := decide_eq_false z
        simp only [d2]
        exact ih
theorem cnt_inc {bs : List (Nat × Nat)} {m u : Nat} (C : Cnt bs m) (hu : u < 63) {bs' : List (Nat × Nat)} (hk : bs'.map (·.1) = bs.map (·.1) ∨ (bs'.map (·.1) = bs.map (·.1) ++ [u] ∧ u ∉ bs.map (·.1)))
    (hl : ∀ v, lookB bs' v = if v = u then some ((lookB bs u).getD 0 + 1) else lookB bs v) : Cnt bs' (m ^^^ 2 ^ u) := by
  refine ⟨?_, ?_, fun v hv => ?_⟩
  · rcases hk with hk | ⟨hk, hn⟩
    · rw [hk]; exact C.nd
    · rw [hk]
      refine List.nodup_append.mpr ⟨C.nd, by simp, fun a ha b hb => ?_⟩
      have hb : b = u := by simpa using hb
      subst hb
      exact fun z => hn (z ▸ ha)
  · intro e he
    have he2 : e.1 ∈ bs'.map (·.1) := List.mem_map.mpr ⟨e, he, rfl⟩
    have old : ∀ x, x ∈ bs.map (·.1) → x < 63 := fun x hx => by
      obtain ⟨b, hb, z⟩ := List.mem_map.mp hx
      exact z ▸ C.lt b hb
    rcases hk with hk | ⟨hk, _⟩
    · rw [hk] at he2
      exact old _ he2
    · rw [hk] at he2
      rcases List.mem_append.mp he2 with h | h
      · exact old _ h
      · have h : e.1 = u := by simpa using h
        rw [h]; exact hu
  · rw [bit_toggle, hl v, C.bit v hv]
    by_cases e : v = u
    · subst e
      rw [if_pos rfl, if_pos rfl]
      show (!decide (((lookB bs v).getD 0) % 2 = 1)) = decide (((lookB bs v).getD 0 + 1) % 2 = 1)
      by_cases z : ((lookB bs v).getD 0) % 2 = 1
      · rw [decide_eq_true z, decide_eq_false (by omega)]; rfl
      · rw [decide_eq_false z, decide_eq_true (by omega)]; rfl
    · rw [if_neg e, if_neg e]
theorem cnt_len {bs : List (Nat × Nat)} {m : Nat} (C : Cnt bs m) : bs.length ≤ 63 := by
  have := dictM_len (kvs := (bs.map (·.1)).map fun (u : Nat) => ((Sum.inl (u : Int) : Key), V.bl true)) (m := msk (bs.map (·.1))) ⟨bs.map (·.1), rfl, C.nd, fun u => by
    rw [msk_bit C.nd, decide_eq_true_eq]
    constructor
    · intro h
      obtain ⟨e, he, z⟩ := List.mem_map.mp h
      exact ⟨z ▸ C.lt e he, h⟩
    · exact fun h => h.2⟩
  simpa using this
theorem lc_keys {d : Addr} {od : Obj} {kvs : List (Key × V)} {g : TG} {tt : TT} {te : TE} {vs : List Nat} {D : Addr} {σ : L2.St} {H : Hp} {Qd : Hp → Prop} (Pv : Nat → Hp → Prop) (h0 : Pv 0 (upd H D (.lst [])))
    (hf : ∀ i H, Pv i H → H d = some (.frz od (.dK kvs)))
    (hs : ∀ i k v H, kvs[i]? = some (k, v) → Pv i H → g (kV k) (wipe σ vs) H fun σ2 H2 => wipe σ2 vs = wipe σ vs ∧ tt σ2 H2 fun b H3 =>
      if b = true then te σ2 H3 fun y H4 => ∃ acc, H4 D = some (.lst acc) ∧ acc.length < sizeLine ∧ Pv (i + 1) (upd H4 D (.lst (acc ++ [y]))) else Pv (i + 1) H3)
    (hd : ∀ H, Pv kvs.length H → Qd H) :
    ∃ W : Nat → Nat → Hp → Prop, (∃ m, W 0 m (upd H D (.lst []))) ∧ ∀ i m H, W i m H →
      ((Itk d od kvs).stop i H ∧ Qd H) ∨ ((Itk d od kvs).go i H ∧ ∃ Nx : Hp → Prop, (∀ H', Nx H' → ∃ m', m' < m ∧ W (i + 1) m' H') ∧ ∀ x H', (Itk d od kvs).yld i H x H' → g x (wipe σ vs) H' fun σ2 H2 => wipe σ2 vs = wipe σ vs ∧ tt σ2 H2 fun b H3 =>
        if b = true then te σ2 H3 fun y H4 => ∃ acc, H4 D = some (.lst acc) ∧ acc.length < sizeLine ∧ Nx (upd H4 D (.lst (acc ++ [y]))) else Nx H3) := by
  refine ⟨fun i m H => i + m = kvs.length ∧ Pv i H, ⟨kvs.length, Nat.zero_add _, h0⟩, ?_⟩
  intro i m H hw
  obtain ⟨hm, p⟩ := hw
  by_cases lt : i < kvs.length
  · refine .inr ⟨⟨hf i H p, lt⟩, Pv (i + 1), fun H' p' => ⟨m - 1, by omega, by omega, p'⟩, ?_⟩
    rintro x H' ⟨rfl, k, v, hk, rfl⟩
    exact hs i k v H' hk p
  · have e : i = kvs.length := by omega
    subst e
    exact .inl ⟨⟨hf _ H p, Nat.le_refl _⟩, hd H p⟩
def sumsD (ms : List Nat) : PyData := .list (ms.map sumD)
def optD : Option Nat → PyData
  | none => .none
  | some u => sumD u
theorem dp_sumsAll {K : PySem.W.Frag} {H : Hp} : ∀ {us : List V} {ms : List Nat}, Paired (SumV K H) us ms → DpAll K H us (ms.map sumD)
  | _, _, .nil => .nil
  | _, _, .cons r t => .cons (dp_sum r) (dp_sumsAll t)
theorem dp_sums {K : PySem.W.Frag} {H : Hp} {a : Addr} {us : List V} {ms : List Nat} (h : SqL K H a us) (p : Paired (SumV K H) us ms) : Dp K H (.ref a) (sumsD ms) := .lst h (dp_sumsAll p)
theorem dp_opt {K : PySem.W.Frag} {H : Hp} {v : V} {o : Option Nat} (h : OptSum K H v o) : Dp K H v (optD o) := by
  cases o with
  | none =>
    have h : v = .non := h
    subst h
    exact .non
  | some u => exact dp_sum h
theorem nice_ints {ns : List Int} (h : ∀ n ∈ ns, n.natAbs < 10 ^ 12) : niceAll (ns.map .int) = true := by
  rw [niceAll_iff]
  intro x hx
  obtain ⟨n, hn, rfl⟩ := List.mem_map.mp hx
  exact decide_eq_true (h n hn)
theorem nice_sumD (m : Nat) : nice (sumD m) = true := by
  refine nice_ints fun n hn => ?_
  obtain ⟨u, hu, rfl⟩ := List.mem_map.mp hn
  have := (mem_bts.mp hu).1
  show u < 10 ^ 12
  exact Nat.lt_trans this (by decide)
theorem nice_sumsD (ms : List Nat) : nice (sumsD ms) = true := by
  show niceAll (ms.map sumD) = true
  rw [niceAll_iff]
  intro x hx
  obtain ⟨m, _, rfl⟩ := List.mem_map.mp hx
  exact nice_sumD m
theorem nice_optD (o : Option Nat) : nice (optD o) = true := by
  cases o with
  | none => rfl
  | some u => exact nice_sumD u
theorem depth_sumsAll : ∀ ms : List Nat, PyData.depthAll (ms.map sumD) ≤ 1
  | [] => Nat.zero_le _
  | m :: ms => by
    show max (sumD m).depth (PyData.depthAll (ms.map sumD)) ≤ 1
    rw [depth_sumD]
    exact Nat.max_le.mpr ⟨Nat.le_refl _, depth_sumsAll ms⟩
theorem depth_sumsD (ms : List Nat) : (sumsD ms).depth ≤ 2 := by
  show PyData.depthAll (ms.map sumD) + 1 ≤ 2
  have := depth_sumsAll ms
  omega
theorem depth_optD (o : Option Nat) : (optD o).depth ≤ 1 := by
  cases o with
  | none => exact Nat.zero_le _
  | some u =>
    show (sumD u).depth ≤ 1
    rw [depth_sumD]
    exact Nat.le_refl _
theorem weight_int {i : Int} {k : Nat} (h : i.natAbs < 2 ^ k) : PyData.weight (.int i) ≤ k := by
  show (if i == 0 then 0 else i.natAbs.log2 + 1) ≤ k
  by_cases z : i = 0
  · subst z
    exact Nat.zero_le _
  · have e : (i == 0) = false := by
      rw [beq_eq_false_iff_ne]
      exact z
    rw [e]
    show i.natAbs.log2 + 1 ≤ k
    have : i.natAbs ≠ 0 := by omega
    exact (Nat.log2_lt this).mpr h
theorem weight_ints {k : Nat} : ∀ {ns : List Int}, (∀ n ∈ ns, n.natAbs < 2 ^ k) → PyData.weightAll (ns.map .int) ≤ (k + 1) * ns.length
  | [], _ => Nat.zero_le _
  | n :: ns, h => by
    have ih := weight_ints fun x hx => h x (List.mem_cons_of_mem _ hx)
    have w := weight_int (h n List.mem_cons_self)
    show PyData.weight (.int n) + 1 + PyData.weightAll (ns.map .int) ≤ _
    rw [List.length_cons, Nat.mul_add, Nat.mul_one]
    omega
theorem weight_sumD (m : Nat) : (sumD m).weight ≤ 441 := by
  have h := weight_ints (k := 6) (ns := (bts m).map Int.ofNat) fun n hn => by
    obtain ⟨u, hu, rfl⟩ := List.mem_map.mp hn
    have := (mem_bts.mp hu).1
    show u < 2 ^ 6
    omega
  have l := bts_len m
  rw [List.length_map] at h
  show PyData.weightAll _ ≤ 441
  omega
theorem weight_sumsAll : ∀ ms : List Nat, PyData.weightAll (ms.map sumD) ≤ 442 * ms.length
  | [] => Nat.zero_le _
  | m :: ms => by
    have ih := weight_sumsAll ms
    have w := weight_sumD m
    show (sumD m).weight + 1 + PyData.weightAll (ms.map sumD) ≤ _
    rw [List.length_cons]
    omega
theorem weight_sumsD {ms : List Nat} (h : ms.length ≤ 1000) : (sumsD ms).weight ≤ 2 ^ 20 := by
  have := weight_sumsAll ms
  show PyData.weightAll (ms.map sumD) ≤ _
  omega
theorem weight_optD (o : Option Nat) : (optD o).weight ≤ 2 ^ 20 := by
  cases o with
  | none => exact Nat.zero_le _
  | some u => exact Nat.le_trans (weight_sumD u) (by decide)
theorem shaped_sumD (m : Nat) : SeqAt.shaped (sumD m) = true := nice_shaped (nice_sumD m) (by rw [depth_sumD]; decide)
theorem eqv_sumD (m : Nat) : PyData.eqv (sumD m) (sumD m) = true := eqv_ints _
theorem sumD_zero : sumD 0 = .tuple [] := by
  unfold sumD
  rw [bts_zero]
  rfl
theorem dp_zero {K : PySem.W.Frag} {H : Hp} {a : Addr} (h : SqT K H a []) : Dp K H (.ref a) (sumD 0) := by
  rw [sumD_zero]
  exact .tup h .nil
theorem eqv_ints_iff : ∀ {xs ys : List Int}, PyData.eqvAll (xs.map .int) (ys.map .int) = true → xs = ys
  | [], [], _ => rfl
  | [], y :: ys, h => by cases h
  | x :: xs, [], h => by cases h
  | x :: xs, y :: ys, h => by
    have h : (PyData.eqv (.int x) (.int y) && PyData.eqvAll (xs.map .int) (ys.map .int)) = true := h
    rw [Bool.and_eq_true] at h
    have h1 : x = y := beq_iff_eq.mp h.1
    rw [h1, eqv_ints_iff h.2]
theorem eqv_sumD_iff {a b : Nat} (ha : a < 2 ^ 63) (hb : b < 2 ^ 63) (h : PyData.eqv (sumD a) (sumD b) = true) : a = b := by
  have h := eqv_ints_iff (show PyData.eqvAll _ _ = true from h)
  refine bts_inj ha hb ?_
  exact (List.map_inj_right (fun a b h => Int.ofNat.inj h)).mp h
theorem xall_pick (ms : List Nat) (u : Nat) : xall ((bts u).map fun k => ms.getD k 0) = pick ms u := by
  have go : ∀ n, xall (((List.range n).filter fun k => u.testBit k).map fun k => ms.getD k 0) = xsum (fun k => if u.testBit k then ms.getD k 0 else 0) n := by
    intro n
    induction n with
    | zero => rfl
    | succ n ih =>
      rw [List.range_succ, List.filter_append, List.map_append]
      show xall _ = xsum _ n ^^^ (if u.testBit n = true then ms.getD n 0 else 0)
      rw [← ih]
      cases q : u.testBit n with
      | true => simp [q, xall]
      | false => simp [q, xall]
  exact go 63
theorem pick_lt {ms : List Nat} (h : ∀ m ∈ ms, m < 2 ^ 63) (u : Nat) : pick ms u < 2 ^ 63 := Spn.lt h (pick_span ms u)
theorem wsum_range (m : Nat) (bs : List Nat) : wsum m bs = ((List.range 63).map fun u => if m.testBit u = true then bs.getD u 0 else 0).sum := by
  unfold wsum bts
  generalize List.range 63 = l
  induction l with
  | nil => rfl
  | cons u l ih =>
    rw [List.filter_cons, List.map_cons, List.sum_cons, ← ih]
    cases q : m.testBit u with
    | true => simp
    | false => simp
theorem wsum_xor (a b : Nat) (bs : List Nat) : wsum (a ^^^ b) bs % 2 = (wsum a bs + wsum b bs) % 2 := by
  rw [wsum_range, wsum_range, wsum_range]
  generalize List.range 63 = l
  induction l with
  | nil => rfl
  | cons u l ih =>
    simp only [List.map_cons, List.sum_cons]
    generalize (List.map (fun u => if (a ^^^ b).testBit u = true then bs.getD u 0 else 0) l).sum = x at ih ⊢
    generalize (List.map (fun u => if a.testBit u = true then bs.getD u 0 else 0) l).sum = y at ih ⊢
    generalize (List.map (fun u => if b.testBit u = true then bs.getD u 0 else 0) l).sum = z at ih ⊢
    generalize bs.getD u 0 = w
    rw [Nat.testBit_xor]
    cases a.testBit u <;> cases b.testBit u <;> simp <;> omega
theorem wsum_zero (bs : List Nat) : wsum 0 bs = 0 := by
  unfold wsum
  rw [bts_zero]
  rfl
theorem wsum_all (bs : List Nat) (ms : List Nat) : ((ms.map fun m => wsum m bs % 2).sum) % 2 = wsum (xall ms) bs % 2 := by
  suffices h : ∀ n, ∀ ms : List Nat, ms.length = n → ((ms.map fun m => wsum m bs % 2).sum) % 2 = wsum (xall ms) bs % 2 from h _ ms rfl
  intro n
  induction n with
  | zero =>
    intro ms hl
    have : ms = [] := List.length_eq_zero_iff.mp hl
    subst this
    show 0 % 2 = wsum 0 bs % 2
    rw [wsum_zero]
  | succ n ih =>
    intro ms hl
    have hne : ms ≠ [] := by intro z; subst z; cases hl
    obtain ⟨pre, m, rfl⟩ : ∃ pre m, ms = pre ++ [m] := ⟨ms.dropLast, ms.getLast hne, (List.dropLast_concat_getLast hne).symm⟩
    have h := ih pre (by simpa using hl)
    rw [xall_snoc, wsum_xor, List.map_append, List.sum_append]
    simp only [List.map_cons, List.map_nil, List.sum_cons, List.sum_nil]
    omega
theorem cut_take (xs : List V) (j : Nat) : cutV xs none (some (j : Int)) = xs.take j := by
  unfold cutV
  have e1 : HT.sIx xs.length 0 none = 0 := HT.sIx_none _ _
  have e2 : HT.sIx xs.length xs.length (some (j : Int)) = min j xs.length := HT.sIx_nat _ _ _
  rw [e1, e2, Nat.sub_zero, List.drop_zero]
  by_cases h : j ≤ xs.length
  · rw [Nat.min_eq_left h]
  · rw [Nat.min_eq_right (by omega), List.take_length, List.take_of_length_le (by omega)]
theorem BagAt.mut {K : PySem.W.Frag} {H0 H : Hp} {b c D : Addr} {o : HO} (B0 : BagAt K H0 b c) (n : H0 D = none) (B : BagAt K H b c) : BagAt K (upd H D o) b c := by
  obtain ⟨x0, y0, z0, cs0, h01, h02, h03, _, _, _, _, p1, p2⟩ := B0
  obtain ⟨x, y, z, cs, h1, h2, h3, q1, q2, q3, q4, q5, q6⟩ := B
  have nb : b ≠ D := ne_of_none h01 n
  have hb : (upd H D o) b = some (.lst [.int x, .int y, .int z, .ref c]) := by rw [upd_ne nb]; exact h1
  rcases h02 with h02 | h02
  · have nc : c ≠ D := by
      rcases h02 with h | ⟨u, h⟩
      · exact ne_of_none h n
      · exact ne_of_none h n
    refine ⟨x, y, z, cs, hb, ?_, h3, q1, q2, q3, q4, q5, q6⟩
    rcases h2 with (h | ⟨u, h⟩) | h
    · exact .inl (.inl (by rw [upd_ne nc]; exact h))
    · exact .inl (.inr ⟨u, by rw [upd_ne nc]; exact h⟩)
    · exact .inr h
  · exact ⟨x, y, z, cs0, hb, .inr h02, h3, q1, q2, q3, q4, p1, p2⟩
theorem but_mut {b : Addr} {H0 H : Hp} {D : Addr} {o : HO} (s : But b H0 H) (n : H0 D = none) : But b H0 (upd H D o) := fun a x na e => by
  rw [upd_ne (ne_of_none e n)]
  exact s a x na e
theorem indep_eq (ms : List Nat) : indep ms = (List.range ms.length).filter fun k => decide (k ∉ (elim ms).2.1.map (·.1)) := rfl
theorem lot_facts {ms : List Nat} (hm : ∀ x ∈ ms, x < 2 ^ 63) (hl : ms.length ≤ 62) : (lotOf ms = none → lrank ms = ms.length) ∧ (∀ u, lotOf ms = some u → u ≠ 0 ∧ u < 2 ^ ms.length ∧ pick ms u = 0) := by
  have O := elim_ok ms hm hl
  unfold lotOf
  cases e : (elim ms).2.1 with
  | nil => exact ⟨fun _ => indep_all hm hl e, fun u h => by cases h⟩
  | cons l ls =>
    refine ⟨(fun h => by cases h), fun u h => ?_⟩
    have h : l.2 = u := Option.some.inj h
    subst h
    obtain ⟨_, h2, h3, h4⟩ := O.lots l (by rw [e]; exact List.mem_cons_self)
    exact ⟨h2, h3, h4⟩
theorem iv_take {l : List Nat} (i : Nat) : (iv l).take i = iv (l.take i) := by
  unfold iv
  rw [List.map_take]
theorem dp_iv {K : PySem.W.Frag} {H : Hp} {a : Addr} {l : List Nat} (h : SqL K H a (iv l)) : Dp K H (.ref a) (.list ((l.map Int.ofNat).map .int)) := by
  rw [iv_ints] at h
  exact dp_list h
theorem nice_iv {l : List Nat} (h : ∀ n ∈ l, n < 10 ^ 12) : nice (.list ((l.map Int.ofNat).map .int)) = true := nice_ints fun n hn => by
  obtain ⟨u, hu, rfl⟩ := List.mem_map.mp hn
  exact h u hu
theorem depth_iv (l : List Nat) : (PyData.list ((l.map Int.ofNat).map .int)).depth ≤ 40 := by
  show PyData.depthAll _ + 1 ≤ 40
  rw [depth_ints]
  decide
theorem weight_iv {l : List Nat} (h : ∀ n ∈ l, n < 2 ^ 40) (hl : l.length ≤ 1000) : (PyData.list ((l.map Int.ofNat).map .int)).weight ≤ 2 ^ 20 := by
  have w := weight_ints (k := 40) (ns := l.map Int.ofNat) fun n hn => by
    obtain ⟨u, hu, rfl⟩ := List.mem_map.mp hn
    exact h u hu
  rw [List.length_map] at w
  show PyData.weightAll _ ≤ _
  omega
theorem paired_take {α β : Type} {R : α → β → Prop} : ∀ {xs : List α} {ys : List β} (n : Nat), PySem.Paired R xs ys → PySem.Paired R (xs.take n) (ys.take n)
  | _, _, 0, _ => .nil
  | _, _, n + 1, .nil => .nil
  | _, _, n + 1, .cons h t => .cons h (paired_take n t)
theorem pairD_facts (m r : Nat) (hr : r ≤ 1000) : nice (.list [sumD m, .int (r : Int)]) = true ∧ (PyData.list [sumD m, .int (r : Int)]).depth ≤ 40 ∧ (PyData.list [sumD m, .int (r : Int)]).weight ≤ 2 ^ 20 := by
  refine ⟨?_, ?_, ?_⟩
  · refine niceAll_iff.mpr fun x hx => ?_
    rcases List.mem_cons.mp hx with rfl | hx
    · exact nice_sumD m
    · rcases List.mem_cons.mp hx with rfl | hx
      · refine decide_eq_true ?_
        show r < 10 ^ 12
        exact Nat.lt_of_le_of_lt hr (by decide)
      · cases hx
  · show max (sumD m).depth (max 0 0) + 1 ≤ 40
    rw [depth_sumD]
    decide
  · have w := weight_sumD m
    have w2 : PyData.weight (.int (r : Int)) ≤ 10 := weight_int (show r < 2 ^ 10 by omega)
    show (sumD m).weight + 1 + (PyData.weight (.int (r : Int)) + 1 + 0) ≤ 2 ^ 20
    omega
theorem ivD_facts {l : List Nat} (h : ∀ n ∈ l, n < 10 ^ 9) (hl : l.length ≤ 1000) : nice (.list ((l.map Int.ofNat).map .int)) = true ∧ (PyData.list ((l.map Int.ofNat).map .int)).depth ≤ 40 ∧ (PyData.list ((l.map Int.ofNat).map .int)).weight ≤ 2 ^ 20 :=
  ⟨nice_iv fun n hn => Nat.lt_trans (h n hn) (by decide), depth_iv l, weight_iv (fun n hn => Nat.lt_trans (h n hn) (by decide)) hl⟩
def tVia (t : TE) : TE := fun σ H Q => ∃ Mid : V → Hp → Prop, t σ H Mid ∧ ∀ v H', Mid v H' → Q v H'
theorem pe_via {X : Cx} {e : Expr} {t : TE} (he : PE X e t) : PE X e (tVia t) :=
  ⟨fun pins s σ H Q I ⟨Mid, h, k⟩ => thn (he.run pins s σ H Mid I h) fun v s1 ⟨x, H1, I1, r1, q1⟩ => ⟨x, H1, I1, r1, k _ _ q1⟩⟩
def sp_law (K : PySem.W.Frag) : Sp := fun vs H Q _ => ∃ (a : Addr) (ns : List Int), vs = [.ref a] ∧ SqL K H a (ns.map V.int) ∧ ns.length ≤ 63 ∧ ∀ H', Q (.bl true) H'
structure SumsAt (K : PySem.W.Frag) (H : Hp) (b c a : Addr) (n : Nat) (us : List V) (ms : List Nat) : Prop where
  bag : BagAt K H b c
  ne : a ≠ b
  at_ : H a = some (.lst us)
  sums : Paired (SumV K H) us ms
  lt : ∀ m ∈ ms, m < 2 ^ n
theorem SumsAt.but {K : PySem.W.Frag} {H H' : Hp} {b c a : Addr} {n : Nat} {us : List V} {ms : List Nat} (S : SumsAt K H b c a n us ms) (s : But b H H') (B : BagAt K H' b c) : SumsAt K H' b c a n us ms :=
  ⟨B, S.ne, s _ _ S.ne S.at_, sums_bag S.bag s S.sums, S.lt⟩
theorem SumsAt.same {K : PySem.W.Frag} {H H' : Hp} {b c a : Addr} {n : Nat} {us : List V} {ms : List Nat} (S : SumsAt K H b c a n us ms) (s : Same H H') : SumsAt K H' b c a n us ms := S.but (But.same s) (S.bag.same s)
theorem SumsAt.mut {K : PySem.W.Frag} {H0 H : Hp} {b c a D : Addr} {n : Nat} {us ys : List V} {ms : List Nat} {o : HO} (B0 : BagAt K H0 b c) (nD : H0 D = none) (na : a ≠ D) (eD : H D = some (.lst ys)) (S : SumsAt K H b c a n us ms) : SumsAt K (upd H D o) b c a n us ms :=
  ⟨BagAt.mut B0 nD S.bag, S.ne, by rw [upd_ne na]; exact S.at_, sums_but eD But.at_ S.sums, S.lt⟩
theorem SumsAt.push {K : PySem.W.Frag} {H0 H : Hp} {b c a : Addr} {n m : Nat} {us : List V} {ms : List Nat} {v : V} (B0 : BagAt K H0 b c) (na : H0 a = none) (S : SumsAt K H b c a n us ms) (hv : SumV K H v m) (hm : m < 2 ^ n) : SumsAt K (upd H a (.lst (us ++ [v]))) b c a n (us ++ [v]) (ms ++ [m]) :=
  ⟨BagAt.mut B0 na S.bag, S.ne, upd_same, PySem.Paired.snoc (sums_but S.at_ But.at_ S.sums) (hv.but S.at_ But.at_), fun x hx => by
    rcases List.mem_append.mp hx with hx | hx
    · exact S.lt x hx
    · have hx : x = m := by simpa using hx
      rw [hx]; exact hm⟩
theorem SumsAt.few {K : PySem.W.Frag} {H : Hp} {b c a : Addr} {n : Nat} {us : List V} {ms : List Nat} (S : SumsAt K H b c a n us ms) (hn : n ≤ 62) (hl : us.length ≤ 62) : Sums K H a us ms :=
  ⟨.inl (.inl S.at_), S.sums, fun m hm => Nat.lt_of_lt_of_le (S.lt m hm) (Nat.pow_le_pow_right (by decide) (by omega)), by rw [← Paired.len S.sums]; exact hl⟩
theorem xall_below {n : Nat} {ms : List Nat} (hn : ∀ m ∈ ms, m < 2 ^ n) : xall ms < 2 ^ n := by
  have go : ∀ (l : List Nat) (x : Nat), x < 2 ^ n → (∀ m ∈ l, m < 2 ^ n) → l.foldl (· ^^^ ·) x < 2 ^ n := by
    intro l
    induction l with
    | nil => intro x hx _; exact hx
    | cons m l ih =>
      intro x hx hl
      exact ih _ (Nat.xor_lt_two_pow hx (hl m List.mem_cons_self)) fun y hy => hl y (List.mem_cons_of_mem _ hy)
  exact go ms 0 (Nat.two_pow_pos n) hn
end Es
namespace Es
structure FlatOk (hs : List (Nat × Nat × Nat)) : Prop where
  red : RedOk hs
  least : ∀ e ∈ hs, low e.2.1 = some e.1
  bit : ∀ e ∈ hs, e.2.2 < 2
theorem flat_nil : FlatOk [] :=
  ⟨⟨List.nodup_nil, (fun e h => by cases h), (fun e h => by cases h)⟩, (fun e h => by cases h), (fun e h => by cases h)⟩
theorem bit_xor {a b : Nat} (ha : a < 2) (hb : b < 2) : a ^^^ b < 2 := Nat.xor_lt_two_pow (n := 1) ha hb
theorem look_of {hs : List (Nat × Nat × Nat)} (nd : (hs.map (·.1)).Nodup) {e : Nat × Nat × Nat} (h : e ∈ hs) : look hs e.1 = some e.2 := by
  cases q : look hs e.1 with
  | none => exact absurd (List.mem_map.mpr ⟨e, h, rfl⟩) (look_none.mp q)
  | some p =>
    have h1 := look_mem q
    obtain ⟨i1, l1, e1⟩ := List.mem_iff_getElem.mp h1
    obtain ⟨i2, l2, e2⟩ := List.mem_iff_getElem.mp h
    have : i1 = i2 := (List.getElem_inj nd (h₀ := by rw [List.length_map]; exact l1) (h₁ := by rw [List.length_map]; exact l2)).mp (by rw [List.getElem_map, List.getElem_map, e1, e2])
    subst this
    rw [e1] at e2
    rw [← e2]
def wh1 (m : Nat) (r : Nat × Nat) (e : Nat × Nat × Nat) : Nat × Nat := if m.testBit e.1 = true then (r.1 ^^^ e.2.1, r.2 ^^^ e.2.2) else r
def wh (hs : List (Nat × Nat × Nat)) (l : Nat × Nat) : Nat × Nat := hs.foldl (wh1 l.1) l
theorem wh1_comm (m : Nat) (z : Nat × Nat) (x y : Nat × Nat × Nat) : wh1 m (wh1 m z x) y = wh1 m (wh1 m z y) x := by
  have x3 : ∀ a b c : Nat, a ^^^ b ^^^ c = a ^^^ c ^^^ b := fun a b c => by rw [Nat.xor_assoc, Nat.xor_comm b c, ← Nat.xor_assoc]
  unfold wh1
  by_cases h1 : m.testBit x.1 = true
  · by_cases h2 : m.testBit y.1 = true
    · rw [if_pos h1, if_pos h1, if_pos h2, if_pos h2]
      show ((_, _) : Nat × Nat) = (_, _)
      rw [x3 z.1, x3 z.2]
    · rw [if_pos h1, if_neg h2, if_neg h2, if_pos h1]
  · by_cases h2 : m.testBit y.1 = true
    · rw [if_neg h1, if_pos h2, if_neg h1]
    · rw [if_neg h1, if_neg h2, if_neg h1]
theorem wh_perm {hs gs : List (Nat × Nat × Nat)} (p : hs.Perm gs) (l : Nat × Nat) : wh hs l = wh gs l :=
  p.foldl_eq' (fun x _ y _ z => wh1_comm l.1 z x y) l
def byHead (hs : List (Nat × Nat × Nat)) : List (Nat × Nat × Nat) := (srt (hs.map (·.1))).map fun h => (h, (look hs h).getD (0, 0))
theorem nodup_of_map {hs : List (Nat × Nat × Nat)} (nd : (hs.map (·.1)).Nodup) : hs.Nodup := by
  induction hs with
  | nil => exact List.nodup_nil
  | cons e hs ih =>
    rw [List.map_cons, List.nodup_cons] at nd
    exact List.nodup_cons.mpr ⟨fun z => nd.1 (List.mem_map.mpr ⟨e, z, rfl⟩), ih nd.2⟩
theorem byHead_keys {hs : List (Nat × Nat × Nat)} : (byHead hs).map (·.1) = srt (hs.map (·.1)) := by
  unfold byHead
  rw [List.map_map]
  exact List.map_id _
theorem byHead_perm {hs : List (Nat × Nat × Nat)} (R : RedOk hs) : (byHead hs).Perm hs := by
  refine (List.perm_ext_iff_of_nodup ?_ (nodup_of_map R.nd)).mpr fun e => ?_
  · refine nodup_of_map ?_
    rw [byHead_keys]
    exact (srt_lt _).imp fun h => Nat.ne_of_lt h
  · unfold byHead
    rw [List.mem_map]
    constructor
    · rintro ⟨h, hh, rfl⟩
      obtain ⟨_, h2⟩ := mem_srt.mp hh
      obtain ⟨e, he, rfl⟩ := List.mem_map.mp h2
      rw [look_of R.nd he]
      exact he
    · intro he
      refine ⟨e.1, mem_srt.mpr ⟨(R.own e he).1, List.mem_map.mpr ⟨e, he, rfl⟩⟩, ?_⟩
      rw [look_of R.nd he]
      rfl
theorem wh_fold {hs : List (Nat × Nat × Nat)} (R : RedOk hs) (m : Nat) : ∀ (S : List Nat) (r : Nat × Nat), S.Nodup → (∀ h ∈ S, h ∈ hs.map (·.1)) → (∀ h ∈ S, r.1.testBit h = m.testBit h) →
    S.foldl (lred1 hs) r = (S.map fun h => (h, (look hs h).getD (0, 0))).foldl (wh1 m) r
  | [], _, _, _, _ => rfl
  | h :: S, r, nd, hk, hb => by
    obtain ⟨n1, n2⟩ := List.nodup_cons.mp nd
    rw [List.foldl_cons, List.map_cons, List.foldl_cons]
    obtain ⟨e, he, ee⟩ := List.mem_map.mp (hk h List.mem_cons_self)
    have lk : look hs h = some e.2 := by rw [← ee]; exact look_of R.nd he
    have step : lred1 hs r h = wh1 m r (h, (look hs h).getD (0, 0)) := by
      unfold lred1 wh1
      rw [lk, hb h List.mem_cons_self]
      rfl
    rw [← step]
    refine wh_fold R m S (lred1 hs r h) n2 (fun g hg => hk g (List.mem_cons_of_mem _ hg)) fun g hg => ?_
    have ng : g ≠ e.1 := fun z => n1 (by rw [← ee, ← z]; exact hg)
    have eb : e.2.1.testBit g = false := R.oth e he g (hk g (List.mem_cons_of_mem _ hg)) ng
    have rb := hb g (List.mem_cons_of_mem _ hg)
    unfold lred1
    rw [lk]
    split
    · show (r.1 ^^^ e.2.1).testBit g = _
      rw [Nat.testBit_xor, eb, Bool.xor_false, rb]
    · exact rb
theorem wh_lred {hs : List (Nat × Nat × Nat)} (R : RedOk hs) (p : Nat × Nat) : wh hs p = lred hs p := by
  rw [← wh_perm (byHead_perm R)]
  unfold wh byHead lred
  exact (wh_fold R p.1 _ p ((srt_lt _).imp fun h => Nat.ne_of_lt h) (fun h hh => (mem_srt.mp hh).2) (fun h _ => rfl)).symm
theorem wh_bit {hs : List (Nat × Nat × Nat)} (B : ∀ e ∈ hs, e.2.2 < 2) (l : Nat × Nat) (hl : l.2 < 2) : (wh hs l).2 < 2 := by
  have go : ∀ (gs : List (Nat × Nat × Nat)) (r : Nat × Nat), (∀ e ∈ gs, e.2.2 < 2) → r.2 < 2 → (gs.foldl (wh1 l.1) r).2 < 2 := by
    intro gs
    induction gs with
    | nil => intro r _ h; exact h
    | cons e gs ih =>
      intro r hb h
      refine ih _ (fun x hx => hb x (List.mem_cons_of_mem _ hx)) ?_
      unfold wh1
      split
      · exact bit_xor h (hb e List.mem_cons_self)
      · exact h
  exact go hs l B hl
theorem wh_lt {n : Nat} {hs : List (Nat × Nat × Nat)} (B : ∀ e ∈ hs, e.2.1 < 2 ^ n) (l : Nat × Nat) (hl : l.1 < 2 ^ n) : (wh hs l).1 < 2 ^ n := by
  have go : ∀ (gs : List (Nat × Nat × Nat)) (r : Nat × Nat), (∀ e ∈ gs, e.2.1 < 2 ^ n) → r.1 < 2 ^ n → (gs.foldl (wh1 l.1) r).1 < 2 ^ n := by
    intro gs
    induction gs with
    | nil => intro r _ h; exact h
    | cons e gs ih =>
      intro r hb h
      refine ih _ (fun x hx => hb x (List.mem_cons_of_mem _ hx)) ?_
      unfold wh1
      split
      · exact Nat.xor_lt_two_pow h (hb e List.mem_cons_self)
      · exact h
  exact go hs l B hl
theorem wh_heads {hs : List (Nat × Nat × Nat)} (R : RedOk hs) {p : Nat × Nat} (hp : p.1 < 2 ^ 63) : (wh hs p).1 < 2 ^ 63 ∧ ∀ h ∈ hs.map (·.1), (wh hs p).1.testBit h = false := by
  rw [wh_lred R]
  obtain ⟨a, _, c⟩ := lred_spec R hp
  exact ⟨a, c⟩
theorem lput_flat {hs : List (Nat × Nat × Nat)} (F : FlatOk hs) {p : Nat × Nat} {a : Nat} (hp : p.1 < 2 ^ 63) (hl : low p.1 = some a) (no : ∀ h ∈ hs.map (·.1), p.1.testBit h = false) (hb : p.2 < 2) : FlatOk (lput hs a p) := by
  obtain ⟨a1, a2, a3⟩ := low_iff.mp hl
  refine ⟨(lput_ok F.red hp hl no).1, fun e he => ?_, fun e he => ?_⟩
  · unfold lput at he
    rcases List.mem_append.mp he with he | he
    · obtain ⟨e0, h0, rfl⟩ := List.mem_map.mp he
      have l0 := F.least e0 h0
      obtain ⟨b1, b2, b3⟩ := low_iff.mp l0
      by_cases hb : e0.2.1.testBit a = true
      · rw [if_pos hb]
        refine low_xor l0 hl ?_
        have ne : e0.1 ≠ a := fun z => by
          have := no e0.1 (List.mem_map.mpr ⟨e0, h0, rfl⟩)
          rw [z, a2] at this
          cases this
        refine Nat.lt_of_le_of_ne (Nat.le_of_not_lt fun z => ?_) ne
        rw [b3 a z] at hb
        cases hb
      · rw [if_neg hb]
        exact l0
    · have he : e = (a, p.1, p.2) := by simpa using he
      rw [he]
      exact hl
  · unfold lput at he
    rcases List.mem_append.mp he with he | he
    · obtain ⟨e0, h0, rfl⟩ := List.mem_map.mp he
      split
      · exact bit_xor (F.bit e0 h0) hb
      · exact F.bit e0 h0
    · have he : e = (a, p.1, p.2) := by simpa using he
      rw [he]
      exact hb
theorem lput_lt {n : Nat} {hs : List (Nat × Nat × Nat)} {p : Nat × Nat} {a : Nat} (B : ∀ e ∈ hs, e.2.1 < 2 ^ n) (hp : p.1 < 2 ^ n) : ∀ e ∈ lput hs a p, e.2.1 < 2 ^ n := fun e he => by
  unfold lput at he
  rcases List.mem_append.mp he with he | he
  · obtain ⟨e0, h0, rfl⟩ := List.mem_map.mp he
    split
    · exact Nat.xor_lt_two_pow (B e0 h0) hp
    · exact B e0 h0
  · have he : e = (a, p.1, p.2) := by simpa using he
    rw [he]
    exact hp
theorem lstep_eq {hs : List (Nat × Nat × Nat)} (R : RedOk hs) (l : Nat × Nat) : lstep hs l = match low (wh hs l).1 with
    | none => if (wh hs l).2 = 1 then none else some hs
    | some a => some (lput hs a (wh hs l)) := by
  unfold lstep
  rw [wh_lred R]
  first
    | done
    | (cases low (lred hs l).1 <;> rfl)
theorem lstep_flat {hs gs : List (Nat × Nat × Nat)} (F : FlatOk hs) {l : Nat × Nat} (hl : l.1 < 2 ^ 63) (hb : l.2 < 2) (e : lstep hs l = some gs) : FlatOk gs := by
  rw [lstep_eq F.red] at e
  obtain ⟨w1, w2⟩ := wh_heads F.red hl
  cases q : low (wh hs l).1 with
  | none =>
    rw [q] at e
    by_cases z : (wh hs l).2 = 1
    · simp [z] at e
    · simp [z] at e
      rw [← e]; exact F
  | some a =>
    rw [q] at e
    have e := Option.some.inj e
    rw [← e]
    exact lput_flat F w1 q w2 (wh_bit F.bit l hb)
theorem lstep_lt {n : Nat} {hs gs : List (Nat × Nat × Nat)} (R : RedOk hs) (B : ∀ e ∈ hs, e.2.1 < 2 ^ n) {l : Nat × Nat} (hl : l.1 < 2 ^ n) (e : lstep hs l = some gs) : ∀ x ∈ gs, x.2.1 < 2 ^ n := by
  rw [lstep_eq R] at e
  cases q : low (wh hs l).1 with
  | none =>
    rw [q] at e
    by_cases z : (wh hs l).2 = 1
    · simp [z] at e
    · simp [z] at e
      rw [← e]; exact B
  | some a =>
    rw [q] at e
    have e := Option.some.inj e
    rw [← e]
    exact lput_lt B (wh_lt B l hl)
theorem snoc_ind {P : List (Nat × Nat) → Prop} (h0 : P []) (h1 : ∀ ls l, P ls → P (ls ++ [l])) (ls : List (Nat × Nat)) : P ls := by
  have go : ∀ n (ls : List (Nat × Nat)), ls.length = n → P ls := by
    intro n
    induction n with
    | zero => intro ls h; rw [List.length_eq_zero_iff.mp h]; exact h0
    | succ n ih =>
      intro ls h
      have hne : ls ≠ [] := by intro z; subst z; cases h
      obtain ⟨pre, m, rfl⟩ : ∃ pre m, ls = pre ++ [m] := ⟨ls.dropLast, ls.getLast hne, (List.dropLast_concat_getLast hne).symm⟩
      exact h1 pre m (ih pre (by simpa using h))
  exact go _ ls rfl
theorem lflat_flat (ls : List (Nat × Nat)) : (∀ l ∈ ls, l.1 < 2 ^ 63 ∧ l.2 < 2) → ∀ hs, lflat ls = some hs → FlatOk hs := by
  refine snoc_ind (P := fun ls => (∀ l ∈ ls, l.1 < 2 ^ 63 ∧ l.2 < 2) → ∀ hs, lflat ls = some hs → FlatOk hs) ?_ ?_ ls
  · intro _ hs e
    have e : some [] = some hs := e
    rw [← Option.some.inj e]
    exact flat_nil
  · intro ls l ih hl hs e
    rw [lflat_snoc] at e
    cases q : lflat ls with
    | none => rw [q] at e; cases e
    | some gs =>
      rw [q] at e
      have F := ih (fun x hx => hl x (List.mem_append_left _ hx)) gs q
      obtain ⟨h1, h2⟩ := hl l (List.mem_append_right _ List.mem_cons_self)
      exact lstep_flat F h1 h2 e
theorem lflat_lt {n : Nat} (hn : n ≤ 63) (ls : List (Nat × Nat)) : (∀ l ∈ ls, l.1 < 2 ^ n ∧ l.2 < 2) → ∀ hs, lflat ls = some hs → ∀ e ∈ hs, e.2.1 < 2 ^ n := by
  refine snoc_ind (P := fun ls => (∀ l ∈ ls, l.1 < 2 ^ n ∧ l.2 < 2) → ∀ hs, lflat ls = some hs → ∀ e ∈ hs, e.2.1 < 2 ^ n) ?_ ?_ ls
  · intro _ hs e
    have e : some [] = some hs := e
    rw [← Option.some.inj e]
    intro x hx
    cases hx
  · intro ls l ih hl hs e
    rw [lflat_snoc] at e
    cases q : lflat ls with
    | none => rw [q] at e; cases e
    | some gs =>
      rw [q] at e
      have F := lflat_flat ls (fun x hx => by
        obtain ⟨a, b⟩ := hl x (List.mem_append_left _ hx)
        exact ⟨Nat.lt_of_lt_of_le a (Nat.pow_le_pow_right (by decide) hn), b⟩) gs q
      exact lstep_lt F.red (ih (fun x hx => hl x (List.mem_append_left _ hx)) gs q) (hl l (List.mem_append_right _ List.mem_cons_self)).1 e
def parL (m : Nat) (f : Nat → Bool) (L : List Nat) : Bool := L.foldl (fun b u => b ^^ (m.testBit u && f u)) false
def par (m : Nat) (f : Nat → Bool) : Bool := parL m f (List.range 63)
def holdsL (l : Nat × Nat) (f : Nat → Bool) : Prop := par l.1 f = decide (l.2 = 1)
theorem parL_xor (a b : Nat) (f : Nat → Bool) (L : List Nat) : parL (a ^^^ b) f L = (parL a f L ^^ parL b f L) := by
  have go : ∀ (L : List Nat) (x y : Bool), L.foldl (fun c u => c ^^ ((a ^^^ b).testBit u && f u)) (x ^^ y) = (L.foldl (fun c u => c ^^ (a.testBit u && f u)) x ^^ L.foldl (fun c u => c ^^ (b.testBit u && f u)) y) := by
    intro L
    induction L with
    | nil => intro x y; rfl
    | cons u L ih =>
      intro x y
      rw [List.foldl_cons, List.foldl_cons, List.foldl_cons, ← ih]
      congr 1
      rw [Nat.testBit_xor]
      cases a.testBit u <;> cases b.testBit u <;> cases f u <;> cases x <;> cases y <;> rfl
  exact go L false false
theorem par_xor (a b : Nat) (f : Nat → Bool) : par (a ^^^ b) f = (par a f ^^ par b f) := parL_xor a b f _
theorem bit_dec {a b : Nat} (ha : a < 2) (hb : b < 2) : decide (a ^^^ b = 1) = (decide (a = 1) ^^ decide (b = 1)) := by
  have ha : a = 0 ∨ a = 1 := by omega
  have hb : b = 0 ∨ b = 1 := by omega
  rcases ha with rfl | rfl <;> rcases hb with rfl | rfl <;> rfl
theorem holds_xor {l k : Nat × Nat} {f : Nat → Bool} (hl : l.2 < 2) (hk : k.2 < 2) (h : holdsL k f) : holdsL (l.1 ^^^ k.1, l.2 ^^^ k.2) f ↔ holdsL l f := by
  unfold holdsL at *
  show par (l.1 ^^^ k.1) f = decide (l.2 ^^^ k.2 = 1) ↔ _
  rw [par_xor, bit_dec hl hk, h]
  cases par l.1 f <;> cases decide (l.2 = 1) <;> cases decide (k.2 = 1) <;> simp
def sol (hs : List (Nat × Nat × Nat)) (f : Nat → Bool) : Prop := ∀ e ∈ hs, holdsL e.2 f
theorem wh_holds {hs : List (Nat × Nat × Nat)} (B : ∀ e ∈ hs, e.2.2 < 2) {f : Nat → Bool} (s : sol hs f) {l : Nat × Nat} (hl : l.2 < 2) : holdsL (wh hs l) f ↔ holdsL l f := by
  have go : ∀ (gs : List (Nat × Nat × Nat)) (r : Nat × Nat), (∀ e ∈ gs, e.2.2 < 2) → sol gs f → r.2 < 2 → (holdsL (gs.foldl (wh1 l.1) r) f ↔ holdsL r f) := by
    intro gs
    induction gs with
    | nil => intro r _ _ _; exact Iff.rfl
    | cons e gs ih =>
      intro r hb hs hr
      have e2 := hb e List.mem_cons_self
      rw [List.foldl_cons]
      have st : (wh1 l.1 r e).2 < 2 ∧ (holdsL (wh1 l.1 r e) f ↔ holdsL r f) := by
        unfold wh1
        split
        · exact ⟨bit_xor hr e2, holds_xor hr e2 (hs e List.mem_cons_self)⟩
        · exact ⟨hr, Iff.rfl⟩
      exact (ih _ (fun x hx => hb x (List.mem_cons_of_mem _ hx)) (fun x hx => hs x (List.mem_cons_of_mem _ hx)) st.1).trans st.2
  exact go hs l B s hl
theorem lput_sol {hs : List (Nat × Nat × Nat)} (B : ∀ e ∈ hs, e.2.2 < 2) {p : Nat × Nat} (hp : p.2 < 2) (a : Nat) (f : Nat → Bool) : sol (lput hs a p) f ↔ sol hs f ∧ holdsL p f := by
  have hp1 : (sol (lput hs a p) f) → holdsL p f := fun s => s (a, p.1, p.2) (List.mem_append_right _ List.mem_cons_self)
  constructor
  · intro s
    refine ⟨fun e he => ?_, hp1 s⟩
    have h := s _ (List.mem_append_left _ (List.mem_map.mpr ⟨e, he, rfl⟩))
    by_cases hb : e.2.1.testBit a = true
    · rw [if_pos hb] at h
      exact (holds_xor (B e he) hp (hp1 s)).mp h
    · rw [if_neg hb] at h
      exact h
  · rintro ⟨s, h⟩ e he
    rcases List.mem_append.mp he with he | he
    · obtain ⟨e0, h0, rfl⟩ := List.mem_map.mp he
      by_cases hb : e0.2.1.testBit a = true
      · rw [if_pos hb]
        exact (holds_xor (B e0 h0) hp h).mpr (s e0 h0)
      · rw [if_neg hb]
        exact s e0 h0
    · have he : e = (a, p.1, p.2) := by simpa using he
      rw [he]
      exact h
theorem par_zero (f : Nat → Bool) : par 0 f = false := by
  unfold par parL
  have go : ∀ (L : List Nat), L.foldl (fun b u => b ^^ ((0 : Nat).testBit u && f u)) false = false := by
    intro L
    induction L with
    | nil => rfl
    | cons u L ih =>
      rw [List.foldl_cons, Nat.zero_testBit]
      exact ih
  exact go _
theorem lstep_some {hs gs : List (Nat × Nat × Nat)} (F : FlatOk hs) {l : Nat × Nat} (hl : l.1 < 2 ^ 63) (hb : l.2 < 2) (e : lstep hs l = some gs) (f : Nat → Bool) : sol gs f ↔ sol hs f ∧ holdsL l f := by
  rw [lstep_eq F.red] at e
  obtain ⟨w1, w2⟩ := wh_heads F.red hl
  have wb := wh_bit F.bit l hb
  cases q : low (wh hs l).1 with
  | none =>
    rw [q] at e
    have w0 := (low_none w1).mp q
    by_cases z : (wh hs l).2 = 1
    · simp [z] at e
    · simp [z] at e
      rw [← e]
      refine ⟨fun s => ⟨s, (wh_holds F.bit s hb).mp ?_⟩, fun s => s.1⟩
      unfold holdsL
      rw [w0, par_zero, decide_eq_false z]
  | some a =>
    rw [q] at e
    have e := Option.some.inj e
    rw [← e, lput_sol F.bit wb]
    exact ⟨fun ⟨s, h⟩ => ⟨s, (wh_holds F.bit s hb).mp h⟩, fun ⟨s, h⟩ => ⟨s, (wh_holds F.bit s hb).mpr h⟩⟩
theorem lstep_no {hs : List (Nat × Nat × Nat)} (F : FlatOk hs) {l : Nat × Nat} (hl : l.1 < 2 ^ 63) (hb : l.2 < 2) (e : lstep hs l = none) (f : Nat → Bool) (s : sol hs f) : ¬ holdsL l f := by
  rw [lstep_eq F.red] at e
  obtain ⟨w1, w2⟩ := wh_heads F.red hl
  cases q : low (wh hs l).1 with
  | none =>
    rw [q] at e
    have w0 := (low_none w1).mp q
    by_cases z : (wh hs l).2 = 1
    · intro h
      have h := (wh_holds F.bit s hb).mpr h
      unfold holdsL at h
      rw [w0, par_zero, decide_eq_true z] at h
      cases h
    · simp [z] at e
  | some a =>
    rw [q] at e
    cases e
theorem lflat_sol (ls : List (Nat × Nat)) : (∀ l ∈ ls, l.1 < 2 ^ 63 ∧ l.2 < 2) → (∀ hs, lflat ls = some hs → ∀ f, sol hs f ↔ ∀ l ∈ ls, holdsL l f) ∧ (lflat ls = none → ∀ f, ¬ ∀ l ∈ ls, holdsL l f) := by
  refine snoc_ind (P := fun ls => (∀ l ∈ ls, l.1 < 2 ^ 63 ∧ l.2 < 2) → (∀ hs, lflat ls = some hs → ∀ f, sol hs f ↔ ∀ l ∈ ls, holdsL l f) ∧ (lflat ls = none → ∀ f, ¬ ∀ l ∈ ls, holdsL l f)) ?_ ?_ ls
  · intro _
    refine ⟨fun hs e f => ?_, fun e => ?_⟩
    · have e : some [] = some hs := e
      rw [← Option.some.inj e]
      exact ⟨(fun _ l hl => by cases hl), (fun _ e he => by cases he)⟩
    · have e : some [] = none := e
      cases e
  · intro ls l ih hl
    have hl0 : ∀ x ∈ ls, x.1 < 2 ^ 63 ∧ x.2 < 2 := fun x hx => hl x (List.mem_append_left _ hx)
    obtain ⟨h1, h2⟩ := hl l (List.mem_append_right _ List.mem_cons_self)
    obtain ⟨i1, i2⟩ := ih hl0
    have split : ∀ f, (∀ x ∈ ls ++ [l], holdsL x f) ↔ (∀ x ∈ ls, holdsL x f) ∧ holdsL l f := fun f => by
      constructor
      · exact fun h => ⟨fun x hx => h x (List.mem_append_left _ hx), h l (List.mem_append_right _ List.mem_cons_self)⟩
      · rintro ⟨ha, hb⟩ x hx
        rcases List.mem_append.mp hx with hx | hx
        · exact ha x hx
        · have hx : x = l := by simpa using hx
          rw [hx]; exact hb
    rw [lflat_snoc]
    cases q : lflat ls with
    | none => exact ⟨fun hs e => (by cases e), fun _ f h => i2 q f ((split f).mp h).1⟩
    | some gs =>
      have F := lflat_flat ls hl0 gs q
      refine ⟨fun hs e f => ?_, fun e f h => ?_⟩
      · rw [lstep_some F h1 h2 e f, split, i1 gs q f]
      · obtain ⟨ha, hb⟩ := (split f).mp h
        exact lstep_no F h1 h2 e f ((i1 gs q f).mpr ha) hb
theorem par_single {m h : Nat} {f : Nat → Bool} (hh : h < 63) (no : ∀ u, u ≠ h → (m.testBit u && f u) = false) : par m f = (m.testBit h && f h) := by
  have go : ∀ (n : Nat) , parL m f (List.range n) = if h < n then (m.testBit h && f h) else false := by
    intro n
    induction n with
    | zero => rfl
    | succ n ih =>
      have st : parL m f (List.range (n + 1)) = (parL m f (List.range n) ^^ (m.testBit n && f n)) := by
        unfold parL
        rw [List.range_succ, List.foldl_append]
        rfl
      rw [st, ih]
      by_cases z : n = h
      · subst z
        rw [if_neg (Nat.lt_irrefl _), if_pos (Nat.lt_succ_self _), Bool.false_xor]
      · rw [no n z, Bool.xor_false]
        by_cases y : h < n
        · rw [if_pos y, if_pos (by omega)]
        · rw [if_neg y, if_neg (by omega)]
  have := go 63
  rw [if_pos hh] at this
  exact this
theorem flat_has {hs : List (Nat × Nat × Nat)} (F : FlatOk hs) : ∃ f : Nat → Bool, sol hs f := by
  refine ⟨fun u => match look hs u with | some q => decide (q.2 = 1) | none => false, fun e he => ?_⟩
  obtain ⟨o1, o2, o3⟩ := F.red.own e he
  unfold holdsL
  rw [par_single (h := e.1) o1 fun u nu => ?_]
  · rw [o3, look_of F.red.nd he]
    exact Bool.true_and _
  · cases q : look hs u with
    | none => exact Bool.and_false _
    | some p =>
      have := F.red.oth e he u (List.mem_map.mpr ⟨_, look_mem q, rfl⟩) nu
      rw [this]
      rfl
theorem flat_free {hs : List (Nat × Nat × Nat)} (F : FlatOk hs) {l : Nat × Nat} (hl : l.1 < 2 ^ 63) (hb : l.2 < 2) (nz : (wh hs l).1 ≠ 0) : ∃ f, sol hs f ∧ holdsL l f := by
  obtain ⟨w1, w2⟩ := wh_heads F.red hl
  obtain ⟨a, ha⟩ := low_some w1 nz
  have wb := wh_bit F.bit l hb
  obtain ⟨f, s⟩ := flat_has (lput_flat F w1 ha w2 wb)
  obtain ⟨s1, s2⟩ := (lput_sol F.bit wb a f).mp s
  exact ⟨f, s1, (wh_holds F.bit s1 hb).mp s2⟩
theorem flat_told {hs : List (Nat × Nat × Nat)} (F : FlatOk hs) {l : Nat × Nat} (hb : l.2 < 2) (z : (wh hs l).1 = 0) {f : Nat → Bool} (s : sol hs f) : holdsL l f ↔ (wh hs l).2 = 0 := by
  rw [← wh_holds F.bit s hb]
  unfold holdsL
  have wb := wh_bit F.bit l hb
  rw [z, par_zero]
  constructor
  · intro h
    have : ¬ (wh hs l).2 = 1 := fun y => by rw [decide_eq_true y] at h; cases h
    omega
  · intro h
    rw [h]
    rfl
theorem wh_row (hs : List (Nat × Nat × Nat)) (m a b : Nat) : (wh hs (m, a)).1 = (wh hs (m, b)).1 ∧ (wh hs (m, a)).2 ^^^ b = (wh hs (m, b)).2 ^^^ a := by
  have x3 : ∀ a b c : Nat, a ^^^ b ^^^ c = a ^^^ c ^^^ b := fun a b c => by rw [Nat.xor_assoc, Nat.xor_comm b c, ← Nat.xor_assoc]
  have go : ∀ (gs : List (Nat × Nat × Nat)) (r s : Nat × Nat), r.1 = s.1 → r.2 ^^^ b = s.2 ^^^ a → (gs.foldl (wh1 m) r).1 = (gs.foldl (wh1 m) s).1 ∧ (gs.foldl (wh1 m) r).2 ^^^ b = (gs.foldl (wh1 m) s).2 ^^^ a := by
    intro gs
    induction gs with
    | nil => intro r s h1 h2; exact ⟨h1, h2⟩
    | cons e gs ih =>
      intro r s h1 h2
      refine ih _ _ ?_ ?_
      · unfold wh1
        split
        · show r.1 ^^^ _ = s.1 ^^^ _
          rw [h1]
        · exact h1
      · unfold wh1
        split
        · show r.2 ^^^ e.2.2 ^^^ b = s.2 ^^^ e.2.2 ^^^ a
          rw [x3, h2, x3]
        · exact h2
  exact go hs (m, a) (m, b) rfl (Nat.xor_comm a b)
end Es
set_option Elab.async false
set_option linter.all false
set_option maxRecDepth 100000
set_option maxHeartbeats 4000000
namespace Es
open PySem PySem.Spec PyProof.Rows L2
def iOr (t1 t2 : TI) : TI := fun σ H R => t1 σ H R ∨ t2 σ H R
theorem pi_or {X : Cx} {tg e : Expr} {t1 t2 : TI} (h1 : PI X tg e t1) (h2 : PI X tg e t2) : PI X tg e (iOr t1 t2) :=
  ⟨fun pins s σ H R I h => by
    rcases h with h | h
    · exact h1.run pins s σ H R I h
    · exact h2.run pins s σ H R I h⟩
theorem Sq.same {K : PySem.W.Frag} {H H' : Hp} {a : Addr} {xs : List V} (s : Same H H') (h : Sq K H a xs) : Sq K H' a xs := by
  rcases h with h | h
  · exact .inl (s.seq h)
  · exact .inr (sqT_same s h)
def Lines (K : PySem.W.Frag) (H : Hp) (a : Addr) (us : List V) (hs : List (Nat × Nat × Nat)) : Prop := Sq K H a us ∧ Paired (LineV K H) us (hs.map (·.2)) ∧ ∀ e ∈ hs, low e.2.1 = some e.1 ∧ e.2.1 < 2 ^ 63
theorem lines_same {K : PySem.W.Frag} {H H' : Hp} {us : List V} {ls : List (Nat × Nat)} (s : Same H H') (h : Paired (LineV K H) us ls) : Paired (LineV K H') us ls := Paired.mono2 (fun _ _ => LineV.same s) h
theorem Lines.same {K : PySem.W.Frag} {H H' : Hp} {a : Addr} {us : List V} {hs : List (Nat × Nat × Nat)} (s : Same H H') (h : Lines K H a us hs) : Lines K H' a us hs := ⟨h.1.same s, lines_same s h.2.1, h.2.2⟩
def sp_both (K : PySem.W.Frag) : Sp := fun vs H Q _ => ∃ (v u : V) (l k : Nat × Nat), vs = [v, u] ∧ LineV K H v l ∧ LineV K H u k ∧ l.1 < 2 ^ 63 ∧ k.1 < 2 ^ 63 ∧
  ∀ H' p, Same H H' → H p = none → LineV K H' (.ref p) (l.1 ^^^ k.1, l.2 ^^^ k.2) → Q (.ref p) H'
def sp_without_heads (K : PySem.W.Frag) : Sp := fun vs H Q _ => ∃ (a : Addr) (us : List V) (hs : List (Nat × Nat × Nat)) (v : V) (l : Nat × Nat), vs = [.ref a, v] ∧ Lines K H a us hs ∧ LineV K H v l ∧ l.1 < 2 ^ 63 ∧
  ∀ H' v', Same H H' → LineV K H' v' (wh hs l) → Q v' H'
def canon (hs : List (Nat × Nat × Nat)) : List (Nat × Nat) := (byHead hs).map (·.2)
def FlatV (K : PySem.W.Frag) (H : Hp) (v : V) (hs : List (Nat × Nat × Nat)) : Prop := ∃ t us, v = .ref t ∧ SqT K H t us ∧ Paired (LineV K H) us (canon hs)
theorem FlatV.same {K : PySem.W.Frag} {H H' : Hp} {v : V} {hs : List (Nat × Nat × Nat)} (s : Same H H') (h : FlatV K H v hs) : FlatV K H' v hs := by
  obtain ⟨t, us, rfl, h1, h2⟩ := h
  exact ⟨t, us, rfl, sqT_same s h1, lines_same s h2⟩
def OptFlat (K : PySem.W.Frag) (H : Hp) (v : V) : Option (List (Nat × Nat × Nat)) → Prop
  | none => v = .non
  | some hs => FlatV K H v hs
def sp_flat_of (K : PySem.W.Frag) : Sp := fun vs H Q _ => ∃ (a : Addr) (us : List V) (ls : List (Nat × Nat)), vs = [.ref a] ∧ SqL K H a us ∧ Paired (LineV K H) us ls ∧ (∀ l ∈ ls, l.1 < 2 ^ 63 ∧ l.2 < 2) ∧
  ∀ H' v, Same H H' → OptFlat K H' v (lflat ls) → Q v H'
def sp_reduced (K : PySem.W.Frag) : Sp := fun vs H Q _ => ∃ (v u : V) (hs : List (Nat × Nat × Nat)) (m : Nat), vs = [v, u] ∧ FlatV K H v hs ∧ FlatOk hs ∧ SumV K H u m ∧ m < 2 ^ 63 ∧
  ∀ H' v', Same H H' → SumV K H' v' (wh hs (m, 0)).1 → Q v' H'
def toldV (hs : List (Nat × Nat × Nat)) (m : Nat) : V := if (wh hs (m, 0)).1 = 0 then .int ((wh hs (m, 0)).2 : Int) else .non
def sp_told_on (K : PySem.W.Frag) : Sp := fun vs H Q _ => ∃ (v u : V) (hs : List (Nat × Nat × Nat)) (m : Nat), vs = [v, u] ∧ FlatV K H v hs ∧ FlatOk hs ∧ SumV K H u m ∧ m < 2 ^ 63 ∧
  ∀ H', Same H H' → Q (toldV hs m) H'
def sp_halves (K : PySem.W.Frag) : Sp := fun vs H Q _ => ∃ (v u : V) (hs : List (Nat × Nat × Nat)) (m : Nat), vs = [v, u] ∧ FlatV K H v hs ∧ FlatOk hs ∧ SumV K H u m ∧ m < 2 ^ 63 ∧
  ((wh hs (m, 0)).1 = 0 → ∀ H', Same H H' → Q .non H') ∧
  ((wh hs (m, 0)).1 ≠ 0 → ∀ H' p v0 v1, Same H H' → H p = none → H' p = some (.tup [v0, v1]) → OptFlat K H' v0 (lflat (canon hs ++ [(m, 0)])) → OptFlat K H' v1 (lflat (canon hs ++ [(m, 1)])) → Q (.ref p) H')
theorem canon_lines {hs : List (Nat × Nat × Nat)} (F : FlatOk hs) : (byHead hs).map (·.2) = canon hs ∧ ∀ e ∈ byHead hs, low e.2.1 = some e.1 ∧ e.2.1 < 2 ^ 63 :=
  ⟨rfl, fun e he => by
    have := (byHead_perm F.red).mem_iff.mp he
    exact ⟨F.least e this, (F.red.own e this).2.1⟩⟩
theorem FlatV.lines {K : PySem.W.Frag} {H : Hp} {v : V} {hs : List (Nat × Nat × Nat)} (F : FlatOk hs) (h : FlatV K H v hs) : ∃ t us, v = .ref t ∧ Lines K H t us (byHead hs) := by
  obtain ⟨t, us, rfl, h1, h2⟩ := h
  exact ⟨t, us, rfl, .inr h1, h2, (canon_lines F).2⟩
theorem wh_byHead {hs : List (Nat × Nat × Nat)} (F : FlatOk hs) (l : Nat × Nat) : wh (byHead hs) l = wh hs l := wh_perm (byHead_perm F.red) l
theorem in_row {m h : Nat} (h63 : h < 63) : inV (.int (h : Int)) (iv (bts m)) = m.testBit h := by
  unfold inV iv
  rw [List.any_map, Bool.eq_iff_iff, List.any_eq_true]
  constructor
  · rintro ⟨x, hx, e⟩
    have e : eqV (.int (x : Int)) (.int (h : Int)) = true := e
    have e : ((x : Int) == (h : Int)) = true := e
    have e : x = h := by have := beq_iff_eq.mp e; omega
    subst e
    exact (mem_bts.mp hx).2
  · intro hb
    exact ⟨h, mem_bts.mpr ⟨h63, hb⟩, show ((h : Int) == (h : Int)) = true from beq_iff_eq.mpr rfl⟩
theorem flat_iv (l : List Nat) : (iv l).all flatV = true := by
  unfold iv
  rw [List.all_map, List.all_eq_true]
  exact fun _ _ => rfl
end Es
set_option Elab.async false
set_option linter.all false
set_option maxRecDepth 100000
set_option maxHeartbeats 4000000
namespace Es
open PySem PySem.Spec PyProof.Rows L2
def hd (l : Nat × Nat) : Nat := (low l.1).getD 63
theorem hd_of {l : Nat × Nat} {h : Nat} (e : low l.1 = some h) : hd l = h := by
  unfold hd
  rw [e]
  rfl
theorem lt_sum {a b h g : Nat} (ha : low a = some h) (hb : low b = some g) (n : h ≠ g) : PySem.W.dataLt (sumD a) (sumD b) = decide (h < g) := by
  obtain ⟨ta, ea⟩ := low_cons ha
  obtain ⟨tb, eb⟩ := low_cons hb
  unfold sumD
  rw [PySem.W.dataLt_tuple]
  show PySem.W.rowLt _ _ = _
  rw [PySem.W.dataLt_ints, ea, eb, List.map_cons, List.map_cons]
  rw [decide_eq_decide, List.cons_lt_cons_iff]
  constructor
  · rintro (z | ⟨z, _⟩)
    · exact Int.ofNat_lt.mp z
    · exact absurd (Int.ofNat.inj z) n
  · exact fun z => .inl (Int.ofNat_lt.mpr z)
theorem alike_sumD (a b : Nat) : PySem.W.alike (sumD a) (sumD b) = true := by
  have h := alike_lineD (a, 0) (b, 0)
  unfold lineD at h
  simp only [PySem.W.alike] at h
  simpa [PySem.W.alike, PySem.W.alikeAll] using h
theorem lt_line {l k : Nat × Nat} {h g : Nat} (hl : low l.1 = some h) (hk : low k.1 = some g) (n : h ≠ g) (l63 : l.1 < 2 ^ 63) (k63 : k.1 < 2 ^ 63) : PySem.W.dataLt (lineD l) (lineD k) = decide (h < g) := by
  unfold lineD
  rw [PySem.W.dataLt_pair (alike_sumD _ _) (by simp [PySem.W.alike])]
  rw [if_neg fun z => n ?_]
  · exact lt_sum hl hk n
  · have := eqv_sumD_iff l63 k63 z
    rw [this] at hl
    exact Option.some.inj (hl.symm.trans hk)
theorem lt_same (l : Nat × Nat) : PySem.W.dataLt (lineD l) (lineD l) = false := by
  unfold lineD
  rw [PySem.W.dataLt_pair (alike_sumD _ _) (by simp [PySem.W.alike]), if_pos (eqv_sumD _), if_pos]
  show ((l.2 : Int) == (l.2 : Int)) = true
  exact beq_iff_eq.mpr rfl
theorem sorted_lines {K : PySem.W.Frag} {H : Hp} {hs : List (Nat × Nat × Nat)} (F : FlatOk hs) {cs : List (V × (Nat × Nat))} (hv : ∀ c ∈ cs, LineV K H c.1 c.2) (p : (cs.map (·.2)).Perm (hs.map (·.2))) :
    Paired (LineV K H) (((cs.map fun c => ((c.1, lineD c.2) : V × PyData)).mergeSort (PySem.W.dataLe false (·.2))).map (·.1)) (canon hs) := by
  have mem : ∀ c ∈ cs, ∃ e ∈ hs, c.2 = e.2 ∧ low c.2.1 = some e.1 ∧ c.2.1 < 2 ^ 63 := fun c hc => by
    obtain ⟨e, he, z⟩ := List.mem_map.mp (p.mem_iff.mp (List.mem_map.mpr ⟨c, hc, rfl⟩))
    have z : e.2 = c.2 := z
    exact ⟨e, he, z.symm, by rw [← z]; exact F.least e he, by rw [← z]; exact (F.red.own e he).2.1⟩
  have key : ∀ a ∈ cs, ∀ b ∈ cs, (decide (hd a.2 ≤ hd b.2)) = PySem.W.dataLe false (fun (b : V × PyData) => b.2) (a.1, lineD a.2) (b.1, lineD b.2) := fun a ha b hb => by
    rw [PySem.W.dataLe_eq]
    show _ = !PySem.W.dataLt (lineD b.2) (lineD a.2)
    obtain ⟨e, he, ea, la, a63⟩ := mem a ha
    obtain ⟨g, hg, eb, lb, b63⟩ := mem b hb
    rw [hd_of la, hd_of lb]
    by_cases n : g.1 = e.1
    · have : g = e := by
        have h1 := look_of F.red.nd hg
        have h2 := look_of F.red.nd he
        rw [n, h2] at h1
        exact Prod.ext n (Option.some.inj h1).symm
      subst this
      rw [ea, eb, lt_same, decide_eq_true (Nat.le_refl _)]
      rfl
    · rw [lt_line lb la n b63 a63]
      by_cases z : g.1 < e.1
      · rw [decide_eq_true z, decide_eq_false (by omega)]
        rfl
      · rw [decide_eq_false z, decide_eq_true (by omega)]
        rfl
  rw [← List.map_mergeSort (r := fun a b : V × (Nat × Nat) => decide (hd a.2 ≤ hd b.2)) (f := fun c : V × (Nat × Nat) => ((c.1, lineD c.2) : V × PyData)) key, List.map_map]
  have srt1 := List.pairwise_mergeSort (le := fun a b : V × (Nat × Nat) => decide (hd a.2 ≤ hd b.2)) (fun a b c h1 h2 => by simp only [decide_eq_true_eq] at *; omega) (fun a b => by simp only [Bool.or_eq_true, decide_eq_true_eq]; omega) cs
  have perm1 := List.mergeSort_perm cs (fun a b : V × (Nat × Nat) => decide (hd a.2 ≤ hd b.2))
  generalize cs.mergeSort (fun a b : V × (Nat × Nat) => decide (hd a.2 ≤ hd b.2)) = zs at srt1 perm1
  have hz : ∀ c ∈ zs, LineV K H c.1 c.2 := fun c hc => hv c (perm1.mem_iff.mp hc)
  have ez : zs.map (·.2) = canon hs := by
    refine List.Perm.eq_of_pairwise (le := fun a b => hd a ≤ hd b) ?_ ?_ ?_ ?_
    · intro a b ha hb h1 h2
      obtain ⟨c, hc, rfl⟩ := List.mem_map.mp ha
      obtain ⟨e, he, ea, la, _⟩ := mem c (perm1.mem_iff.mp hc)
      unfold canon at hb
      obtain ⟨g, hg, rfl⟩ := List.mem_map.mp hb
      have hg := (byHead_perm F.red).mem_iff.mp hg
      have lg := F.least g hg
      rw [hd_of la, hd_of lg] at h1 h2
      have n : e.1 = g.1 := by omega
      have h1 := look_of F.red.nd hg
      have h2 := look_of F.red.nd he
      rw [← n, h2] at h1
      rw [ea]
      exact Option.some.inj h1
    · rw [List.pairwise_map]
      exact srt1.imp fun h => by simpa using h
    · unfold canon
      rw [List.pairwise_map]
      have k := srt_lt (hs.map (·.1))
      rw [← byHead_keys, List.pairwise_map] at k
      refine k.imp_of_mem fun {a b} ha hb h => ?_
      have ha := F.least a ((byHead_perm F.red).mem_iff.mp ha)
      have hb := F.least b ((byHead_perm F.red).mem_iff.mp hb)
      rw [hd_of ha, hd_of hb]
      exact Nat.le_of_lt h
    · refine (perm1.map (·.2)).trans (p.trans ?_)
      unfold canon
      exact ((byHead_perm F.red).map (·.2)).symm
  rw [← ez]
  clear ez srt1 perm1
  induction zs with
  | nil => exact .nil
  | cons c zs ih => exact .cons (hz c List.mem_cons_self) (ih fun x hx => hz x (List.mem_cons_of_mem _ hx))
theorem lines_but {K : PySem.W.Frag} {H H' : Hp} {b : Addr} {ys us : List V} {ls : List (Nat × Nat)} (hb : H b = some (.lst ys)) (s : But b H H') (h : Paired (LineV K H) us ls) : Paired (LineV K H') us ls := Paired.mono2 (fun _ _ => LineV.but hb s) h
theorem paired_zip {α β : Type} {R : α → β → Prop} : ∀ {xs : List α} {ys : List β}, PySem.Paired R xs ys → ∀ c ∈ xs.zip ys, R c.1 c.2
  | _, _, .nil => fun c hc => by cases hc
  | _, _, .cons h t => fun c hc => by
    rw [List.zip_cons_cons] at hc
    rcases List.mem_cons.mp hc with hc | hc
    · rw [hc]; exact h
    · exact paired_zip t c hc
theorem lput_lines (hs : List (Nat × Nat × Nat)) (a : Nat) (p : Nat × Nat) : (lput hs a p).map (·.2) = (hs.map fun e => wh1 e.2.1 e.2 (a, p)) ++ [p] := by
  unfold lput
  rw [List.map_append, List.map_map]
  congr 1
  refine List.map_congr_left fun e _ => ?_
  show (if e.2.1.testBit a = true then (e.1, e.2.1 ^^^ p.1, e.2.2 ^^^ p.2) else e).2 = wh1 e.2.1 e.2 (a, p)
  unfold wh1
  by_cases z : e.2.1.testBit a = true
  · rw [if_pos z, if_pos z]
  · rw [if_neg z, if_neg z]
theorem sort_facts {K : PySem.W.Frag} {H : Hp} {cs : List (V × (Nat × Nat))} (hv : ∀ c ∈ cs, LineV K H c.1 c.2) :
    (∀ b ∈ cs.map (fun c => ((c.1, lineD c.2) : V × PyData)), Dp K H b.1 b.2) ∧ PySem.W.AllAlike ((cs.map (fun c => ((c.1, lineD c.2) : V × PyData))).map (·.2)) ∧ PySem.W.Sortable ((cs.map (fun c => ((c.1, lineD c.2) : V × PyData))).map (·.2)) ∧ (∀ b ∈ cs.map (fun c => ((c.1, lineD c.2) : V × PyData)), b.2.depth ≤ 40) := by
  refine ⟨fun b hb => ?_, fun d1 h1 d2 h2 => ?_, .inl fun d1 h1 => ?_, fun b hb => ?_⟩
  · obtain ⟨c, hc, rfl⟩ := List.mem_map.mp hb
    exact dp_line (hv c hc)
  · obtain ⟨x1, m1, rfl⟩ := List.mem_map.mp h1
    obtain ⟨x2, m2, rfl⟩ := List.mem_map.mp h2
    obtain ⟨c1, _, rfl⟩ := List.mem_map.mp m1
    obtain ⟨c2, _, rfl⟩ := List.mem_map.mp m2
    exact alike_lineD c1.2 c2.2
  · obtain ⟨x1, m1, rfl⟩ := List.mem_map.mp h1
    obtain ⟨c1, _, rfl⟩ := List.mem_map.mp m1
    exact ⟨_, _, rfl⟩
  · obtain ⟨c, hc, rfl⟩ := List.mem_map.mp hb
    show (lineD c.2).depth ≤ 40
    rw [depth_lineD]
    decide
theorem canon_mem {hs : List (Nat × Nat × Nat)} (F : FlatOk hs) {l : Nat × Nat} (h : l ∈ canon hs) : ∃ e ∈ hs, l = e.2 := by
  unfold canon at h
  obtain ⟨e, he, rfl⟩ := List.mem_map.mp h
  exact ⟨e, (byHead_perm F.red).mem_iff.mp he, rfl⟩
theorem canon_lt {hs : List (Nat × Nat × Nat)} (F : FlatOk hs) : ∀ l ∈ canon hs, l.1 < 2 ^ 63 ∧ l.2 < 2 := fun l h => by
  obtain ⟨e, he, rfl⟩ := canon_mem F h
  exact ⟨(F.red.own e he).2.1, F.bit e he⟩
theorem canon_snoc_lt {hs : List (Nat × Nat × Nat)} (F : FlatOk hs) {m b : Nat} (hm : m < 2 ^ 63) (hb : b < 2) : ∀ l ∈ canon hs ++ [(m, b)], l.1 < 2 ^ 63 ∧ l.2 < 2 := fun l h => by
  rcases List.mem_append.mp h with h | h
  · exact canon_lt F l h
  · have h : l = (m, b) := by simpa using h
    rw [h]; exact ⟨hm, hb⟩
theorem canon_len (hs : List (Nat × Nat × Nat)) : (canon hs).length ≤ 63 := by
  unfold canon byHead
  rw [List.length_map, List.length_map]
  have := List.length_filter_le (fun u => decide (u ∈ hs.map (·.1))) (List.range 63)
  simpa [srt] using this
theorem optFlat_same {K : PySem.W.Frag} {H H' : Hp} {v : V} {o : Option (List (Nat × Nat × Nat))} (s : Same H H') (h : OptFlat K H v o) : OptFlat K H' v o := by
  cases o with
  | none => exact h
  | some hs => exact FlatV.same s h
def rListK (K : PySem.W.Frag) : List V → Hp → VK → Prop := fun xs H Q => ∃ p ys, xs = [.ref p] ∧ (SqL K H p ys ∨ SqT K H p ys) ∧ ∀ (l : Addr), H l = none → Q (.ref l) (upd H l (.lst ys))
theorem canon_get {hs : List (Nat × Nat × Nat)} (F : FlatOk hs) {i : Nat} {l : Nat × Nat} (h : (canon hs)[i]? = some l) : ∃ e ∈ hs, l = e.2 ∧ (srt (hs.map (·.1)))[i]? = some e.1 := by
  unfold canon at h
  rw [List.getElem?_map] at h
  obtain ⟨e, he, rfl⟩ := Option.map_eq_some_iff.mp h
  refine ⟨e, (byHead_perm F.red).mem_iff.mp (List.mem_of_getElem? he), rfl, ?_⟩
  rw [← byHead_keys, List.getElem?_map, he]
  rfl
theorem canon_eq_len (hs : List (Nat × Nat × Nat)) : (canon hs).length = (srt (hs.map (·.1))).length := by
  unfold canon byHead
  rw [List.length_map, List.length_map]
theorem optFlat_but {K : PySem.W.Frag} {H H' : Hp} {b : Addr} {ys : List V} {v : V} {o : Option (List (Nat × Nat × Nat))} (hb : H b = some (.lst ys)) (s : But b H H') (h : OptFlat K H v o) : OptFlat K H' v o := by
  cases o with
  | none => exact h
  | some hs =>
    obtain ⟨t, us, rfl, h1, h2⟩ := h
    exact ⟨t, us, rfl, sqT_but hb s h1, lines_but hb s h2⟩
end Es
set_option Elab.async false
set_option linter.all false
set_option maxRecDepth 100000
set_option maxHeartbeats 4000000
namespace Es
open PySem PySem.Spec PyProof.Rows L2
def fS (n s : Nat) : Nat → Bool := fun u => decide (u < n) && s.testBit (n - 1 - u)
def holdsB (l : Nat × Nat) (f : Nat → Bool) : Bool := par l.1 f == decide (l.2 = 1)
theorem holdsB_iff {l : Nat × Nat} {f : Nat → Bool} : holdsB l f = true ↔ holdsL l f := by
  unfold holdsB holdsL
  exact beq_iff_eq
def BitsOf (N x : Nat) (p : Nat → Bool) : Prop := x < 2 ^ N ∧ ∀ s, s < N → x.testBit s = p s
theorem BitsOf.uniq {N x y : Nat} {p : Nat → Bool} (hx : BitsOf N x p) (hy : BitsOf N y p) : x = y := by
  refine Nat.eq_of_testBit_eq fun s => ?_
  by_cases h : s < N
  · rw [hx.2 s h, hy.2 s h]
  · rw [Nat.testBit_lt_two_pow (Nat.lt_of_lt_of_le hx.1 (Nat.pow_le_pow_right (by decide) (Nat.le_of_not_lt h))), Nat.testBit_lt_two_pow (Nat.lt_of_lt_of_le hy.1 (Nat.pow_le_pow_right (by decide) (Nat.le_of_not_lt h)))]
theorem BitsOf.congr {N x : Nat} {p q : Nat → Bool} (h : BitsOf N x p) (e : ∀ s, s < N → p s = q s) : BitsOf N x q := ⟨h.1, fun s hs => (h.2 s hs).trans (e s hs)⟩
theorem BitsOf.xor {N x y : Nat} {p q : Nat → Bool} (hx : BitsOf N x p) (hy : BitsOf N y q) : BitsOf N (x ^^^ y) (fun s => p s ^^ q s) :=
  ⟨Nat.xor_lt_two_pow hx.1 hy.1, fun s hs => by rw [Nat.testBit_xor, hx.2 s hs, hy.2 s hs]⟩
theorem BitsOf.and {N x y : Nat} {p q : Nat → Bool} (hx : BitsOf N x p) (hy : BitsOf N y q) : BitsOf N (x &&& y) (fun s => p s && q s) :=
  ⟨Nat.lt_of_le_of_lt Nat.and_le_left hx.1, fun s hs => by rw [Nat.testBit_and, hx.2 s hs, hy.2 s hs]⟩
theorem BitsOf.none (N : Nat) : BitsOf N 0 (fun _ => false) := ⟨Nat.two_pow_pos _, fun s _ => Nat.zero_testBit s⟩
theorem BitsOf.all (N : Nat) : BitsOf N (2 ^ N - 1) (fun _ => true) := ⟨by have := Nat.two_pow_pos N; omega, fun s hs => by rw [Nat.testBit_two_pow_sub_one, decide_eq_true hs]⟩
theorem BitsOf.pos {N x : Nat} {p : Nat → Bool} (h : BitsOf N x p) : 0 < x ↔ ∃ s, s < N ∧ p s = true := by
  constructor
  · intro h0
    refine Classical.byContradiction fun z => ?_
    have : x = 0 := h.uniq ((BitsOf.none N).congr fun s hs => by
      cases q : p s with
      | false => rfl
      | true => exact absurd ⟨s, hs, q⟩ z)
    omega
  · rintro ⟨s, hs, q⟩
    refine Nat.pos_of_ne_zero fun z => ?_
    have := h.2 s hs
    rw [z, Nat.zero_testBit, q] at this
    cases this
theorem and_nat (a b : Nat) : Builtin.bitAnd (a : Int) (b : Int) = ((a &&& b : Nat) : Int) := by
  rw [bitAnd_pp (Int.natCast_nonneg _) (Int.natCast_nonneg _)]
  rfl
theorem setting_num (n : Nat) (f : Nat → Bool) : ∃ s, s < 2 ^ n ∧ ∀ u, u < n → s.testBit (n - 1 - u) = f u := by
  induction n generalizing f with
  | zero => exact ⟨0, by decide, fun u hu => absurd hu (Nat.not_lt_zero u)⟩
  | succ n ih =>
    obtain ⟨s, h1, h2⟩ := ih fun u => f (u + 1)
    refine ⟨(if f 0 = true then 2 ^ n else 0) + s, ?_, fun u hu => ?_⟩
    · rw [Nat.pow_succ]
      split <;> omega
    · cases u with
      | zero =>
        rw [Nat.sub_zero, Nat.add_sub_cancel]
        cases q : f 0 with
        | true =>
          rw [if_pos rfl, Nat.testBit_two_pow_add_eq, Nat.testBit_lt_two_pow h1]
          rfl
        | false =>
          rw [if_neg Bool.false_ne_true, Nat.zero_add, Nat.testBit_lt_two_pow h1]
      | succ u =>
        have e : n + 1 - 1 - (u + 1) = n - 1 - u := by omega
        rw [e, ← h2 u (by omega)]
        split
        · exact Nat.testBit_two_pow_add_gt (by omega) s
        · rw [Nat.zero_add]
theorem par_congr {m n : Nat} (hm : m < 2 ^ n) {f g : Nat → Bool} (h : ∀ u, u < n → f u = g u) : par m f = par m g := by
  unfold par parL
  have go : ∀ (L : List Nat) (b : Bool), L.foldl (fun b u => b ^^ (m.testBit u && f u)) b = L.foldl (fun b u => b ^^ (m.testBit u && g u)) b := by
    intro L
    induction L with
    | nil => intro b; rfl
    | cons u L ih =>
      intro b
      rw [List.foldl_cons, List.foldl_cons]
      have : (m.testBit u && f u) = (m.testBit u && g u) := by
        by_cases hu : u < n
        · rw [h u hu]
        · rw [Nat.testBit_lt_two_pow (Nat.lt_of_lt_of_le hm (Nat.pow_le_pow_right (by decide) (Nat.le_of_not_lt hu)))]
          rfl
      rw [this]
      exact ih _
  exact go _ _
theorem holds_num {n : Nat} (f : Nat → Bool) : ∃ s, s < 2 ^ n ∧ ∀ l : Nat × Nat, l.1 < 2 ^ n → (holdsL l (fS n s) ↔ holdsL l f) := by
  obtain ⟨s, h1, h2⟩ := setting_num n f
  refine ⟨s, h1, fun l hl => ?_⟩
  unfold holdsL
  rw [par_congr hl (f := fS n s) (g := f) fun u hu => by unfold fS; rw [decide_eq_true hu, Bool.true_and, h2 u hu]]
theorem par_bts (m : Nat) (f : Nat → Bool) : par m f = (bts m).foldl (fun b u => b ^^ f u) false := by
  unfold par parL bts
  have go : ∀ (L : List Nat) (b : Bool), L.foldl (fun b u => b ^^ (m.testBit u && f u)) b = (L.filter fun u => m.testBit u).foldl (fun b u => b ^^ f u) b := by
    intro L
    induction L with
    | nil => intro b; rfl
    | cons u L ih =>
      intro b
      rw [List.foldl_cons, List.filter_cons]
      cases q : m.testBit u with
      | true => rw [if_pos rfl, List.foldl_cons, Bool.true_and]; exact ih _
      | false => rw [if_neg Bool.false_ne_true, Bool.false_and, Bool.xor_false]; exact ih _
  exact go _ _
theorem wsum_par (m : Nat) (bs : List Nat) (hb : ∀ b ∈ bs, b < 2) : holdsL (m, wsum m bs % 2) (fun u => decide (bs.getD u 0 = 1)) := by
  unfold holdsL
  rw [par_bts]
  unfold wsum
  show _ = decide (_ % 2 = 1)
  have b2 : ∀ u, bs.getD u 0 < 2 := fun u => by
    rw [List.getD_eq_getElem?_getD]
    cases q : bs[u]? with
    | none => decide
    | some b => exact hb b (List.mem_of_getElem? q)
  have go : ∀ (L : List Nat) (b : Bool) (x : Nat), b = decide (x % 2 = 1) → L.foldl (fun b u => b ^^ decide (bs.getD u 0 = 1)) b = decide ((x + (L.map fun u => bs.getD u 0).sum) % 2 = 1) := by
    intro L
    induction L with
    | nil => intro b x h; rw [h]; rfl
    | cons u L ih =>
      intro b x h
      rw [List.foldl_cons, List.map_cons, List.sum_cons, ← Nat.add_assoc]
      refine ih _ _ ?_
      rw [h]
      have hu := b2 u
      generalize bs.getD u 0 = y at hu ⊢
      have hy : y = 0 ∨ y = 1 := by omega
      rcases hy with rfl | rfl
      · simp
      · by_cases z : x % 2 = 1
        · have z2 : ¬ (x + 1) % 2 = 1 := by omega
          rw [decide_eq_true z, decide_eq_false z2]
          rfl
        · have z2 : (x + 1) % 2 = 1 := by omega
          rw [decide_eq_false z, decide_eq_true z2]
          rfl
  have := go (bts m) false 0 rfl
  rwa [Nat.zero_add] at this
def sp_law_told (K : PySem.W.Frag) : Sp := sp_told_on K
def sp_law_halves (K : PySem.W.Frag) : Sp := fun vs H Q _ => ∃ (v u : V) (hs : List (Nat × Nat × Nat)) (m : Nat), vs = [v, u] ∧ FlatV K H v hs ∧ FlatOk hs ∧ SumV K H u m ∧ m < 2 ^ 63 ∧
  ∀ H' p v0 v1, Same H H' → H p = none → H' p = some (.tup [v0, v1]) → OptFlat K H' v0 (lflat (canon hs ++ [(m, 0)])) → OptFlat K H' v1 (lflat (canon hs ++ [(m, 1)])) → Q (.ref p) H'
def sp_law_is_row (K : PySem.W.Frag) : Sp := fun vs H Q _ => ∃ (n m : Nat) (v : V), vs = [.int (n : Int), v] ∧ SumV K H v m ∧ m < 2 ^ n ∧ m ≠ 0 ∧ n ≤ 62 ∧ ∀ H', Same H H' → Q (.bl true) H'
def sp_law_is_line (K : PySem.W.Frag) : Sp := fun vs H Q _ => ∃ (n : Nat) (l : Nat × Nat) (v : V), vs = [.int (n : Int), v] ∧ LineV K H v l ∧ l.1 < 2 ^ n ∧ l.1 ≠ 0 ∧ l.2 < 2 ∧ n ≤ 62 ∧ ∀ H', Same H H' → Q (.bl true) H'
def sp_law_is_clause (K : PySem.W.Frag) : Sp := fun vs H Q _ => ∃ (n : Nat) (hs : List (Nat × Nat × Nat)) (v : V), vs = [.int (n : Int), v] ∧ FlatV K H v hs ∧ FlatOk hs ∧ (∀ e ∈ hs, e.2.1 < 2 ^ n) ∧ n ≤ 62 ∧ ∀ H', Same H H' → Q (.bl true) H'
def sp_law_is_flat (K : PySem.W.Frag) : Sp := sp_law_is_clause K
def sp_law_is_reduced (K : PySem.W.Frag) : Sp := fun vs H Q _ => ∃ (v u x : V) (hs : List (Nat × Nat × Nat)) (m : Nat), vs = [v, u, x] ∧ FlatV K H v hs ∧ FlatOk hs ∧ SumV K H u m ∧ m < 2 ^ 63 ∧ SumV K H x (wh hs (m, 0)).1 ∧ ∀ H', Same H H' → Q (.bl true) H'
def sp_law_drawn_flat (K : PySem.W.Frag) : Sp := fun vs H Q _ => ∃ (b c : Addr) (n k : Nat), vs = [.ref b, .int (n : Int), .int (k : Int)] ∧ BagAt K H b c ∧ n ≤ 62 ∧ k ≤ 100 ∧
  ∀ H' v hs, But b H H' → BagAt K H' b c → FlatV K H' v hs → FlatOk hs → (∀ e ∈ hs, e.2.1 < 2 ^ n) → Q v H'
def sp_law_drawn_sum (K : PySem.W.Frag) : Sp := fun vs H Q _ => ∃ (b c : Addr) (n : Nat) (v : V) (hs : List (Nat × Nat × Nat)), vs = [.ref b, .int (n : Int), v] ∧ BagAt K H b c ∧ n ≤ 62 ∧ FlatV K H v hs ∧ FlatOk hs ∧ (∀ e ∈ hs, e.2.1 < 2 ^ n) ∧
  ∀ H' u m, But b H H' → BagAt K H' b c → SumV K H' u m → m < 2 ^ n → Q u H'
def RoomV (K : PySem.W.Frag) (H : Hp) (v : V) (n : Nat) : Prop := ∃ t c cs, v = .ref t ∧ SqT K H t [.int (n : Int), .int ((2 ^ 2 ^ n - 1 : Nat) : Int), .ref c] ∧ SqT K H c (iv cs) ∧ cs.length = n ∧ ∀ u, u < n → BitsOf (2 ^ n) (cs.getD u 0) (fun s => fS n s u)
theorem RoomV.same {K : PySem.W.Frag} {H H' : Hp} {v : V} {n : Nat} (s : Same H H') (h : RoomV K H v n) : RoomV K H' v n := by
  obtain ⟨t, c, cs, rfl, h1, h2, h3⟩ := h
  exact ⟨t, c, cs, rfl, sqT_same s h1, sqT_same s h2, h3⟩
def sp_law_room (K : PySem.W.Frag) : Sp := fun vs H Q _ => ∃ (n : Nat), vs = [.int (n : Int)] ∧ n ≤ 7 ∧ ∀ H' v, Same H H' → RoomV K H' v n → Q v H'
def sp_law_held (K : PySem.W.Frag) : Sp := fun vs H Q _ => ∃ (v u : V) (n : Nat) (l : Nat × Nat), vs = [v, u] ∧ RoomV K H v n ∧ n ≤ 7 ∧ LineV K H u l ∧ l.1 < 2 ^ n ∧ l.2 < 2 ∧
  ∀ x, BitsOf (2 ^ n) x (fun s => holdsB l (fS n s)) → Q (.int (x : Int)) H
def sp_law_in (K : PySem.W.Frag) : Sp := fun vs H Q _ => ∃ (v : V) (t : Addr) (us : List V) (n : Nat) (ls : List (Nat × Nat)), vs = [v, .ref t] ∧ RoomV K H v n ∧ n ≤ 7 ∧ SqT K H t us ∧ Paired (LineV K H) us ls ∧ (∀ l ∈ ls, l.1 < 2 ^ n ∧ l.2 < 2) ∧
  ∀ x, BitsOf (2 ^ n) x (fun s => ls.all fun l => holdsB l (fS n s)) → Q (.int (x : Int)) H
def sp_law_worthL (K : PySem.W.Frag) : Sp := fun vs H Q _ => ∃ (v : V) (b : Addr) (m : Nat) (bs : List Nat), vs = [v, .ref b] ∧ SumV K H v m ∧ SqL K H b (iv bs) ∧ (∀ u ∈ bts m, u < bs.length) ∧
  ∀ H', Same H H' → Q (.int ((wsum m bs % 2 : Nat) : Int)) H'
theorem nice_line {l : Nat × Nat} (h : l.2 < 2) : nice (lineD l) = true := by
  refine niceAll_iff.mpr fun x hx => ?_
  rcases List.mem_cons.mp hx with rfl | hx
  · exact nice_sumD _
  · rcases List.mem_cons.mp hx with rfl | hx
    · refine decide_eq_true ?_
      show l.2 < 10 ^ 12
      exact Nat.lt_trans h (by decide)
    · cases hx
theorem shaped_line {l : Nat × Nat} (h : l.2 < 2) : SeqAt.shaped (lineD l) = true := nice_shaped (nice_line h) (by rw [depth_lineD]; decide)
theorem eqv_line {l : Nat × Nat} (h : l.2 < 2) : PyData.eqv (lineD l) (lineD l) = true := SeqAt.eqv_refl _ (nice_facts _ (nice_line h)).1
theorem all_canon {hs : List (Nat × Nat × Nat)} (F : FlatOk hs) (f : Nat → Bool) : ((canon hs).all fun l => holdsB l f) = true ↔ sol hs f := by
  rw [List.all_eq_true]
  constructor
  · intro h e he
    refine holdsB_iff.mp (h e.2 ?_)
    unfold canon
    exact List.mem_map.mpr ⟨e, (byHead_perm F.red).mem_iff.mpr he, rfl⟩
  · intro h l hl
    obtain ⟨e, he, rfl⟩ := canon_mem F hl
    exact holdsB_iff.mpr (h e he)
theorem half_is {hs : List (Nat × Nat × Nat)} (F : FlatOk hs) {n m b : Nat} (hn : n ≤ 62) (hlt : ∀ e ∈ hs, e.2.1 < 2 ^ n) (hm : m < 2 ^ n) (hb : b < 2) (nz : (wh hs (m, 0)).1 ≠ 0) :
    ∃ gs, lflat (canon hs ++ [(m, b)]) = some gs ∧ FlatOk gs ∧ (∀ e ∈ gs, e.2.1 < 2 ^ n) ∧ ∀ f, sol gs f ↔ sol hs f ∧ holdsL (m, b) f := by
  have m63 : m < 2 ^ 63 := Nat.lt_of_lt_of_le hm (Nat.pow_le_pow_right (by decide) (by omega))
  have lt1 := canon_snoc_lt F m63 hb
  have lt2 : ∀ l ∈ canon hs ++ [(m, b)], l.1 < 2 ^ n ∧ l.2 < 2 := fun l hl => by
    refine ⟨?_, (lt1 l hl).2⟩
    rcases List.mem_append.mp hl with hl | hl
    · obtain ⟨e, he, rfl⟩ := canon_mem F hl
      exact hlt e he
    · have hl : l = (m, b) := by simpa using hl
      rw [hl]; exact hm
  have both : ∀ f, (∀ l ∈ canon hs ++ [(m, b)], holdsL l f) ↔ sol hs f ∧ holdsL (m, b) f := fun f => by
    rw [← all_canon F f, List.all_eq_true]
    constructor
    · exact fun h => ⟨fun l hl => holdsB_iff.mpr (h l (List.mem_append_left _ hl)), h _ (List.mem_append_right _ List.mem_cons_self)⟩
    · rintro ⟨h1, h2⟩ l hl
      rcases List.mem_append.mp hl with hl | hl
      · exact holdsB_iff.mp (h1 l hl)
      · have hl : l = (m, b) := by simpa using hl
        rw [hl]; exact h2
  obtain ⟨a1, a2⟩ := lflat_sol (canon hs ++ [(m, b)]) lt1
  cases q : lflat (canon hs ++ [(m, b)]) with
  | none =>
    obtain ⟨f, s1, s2⟩ := flat_free F (l := (m, b)) m63 hb (by rw [← (wh_row hs m 0 b).1]; exact nz)
    exact absurd ((both f).mpr ⟨s1, s2⟩) (a2 q f)
  | some gs => exact ⟨gs, rfl, lflat_flat _ lt1 gs q, lflat_lt (by omega) _ lt2 gs q, fun f => (a1 gs q f).trans (both f)⟩
def sp_law_are_halves (K : PySem.W.Frag) : Sp := fun vs H Q _ => ∃ (v w u : V) (p : Addr) (v0 v1 : V) (n : Nat) (hs : List (Nat × Nat × Nat)) (m : Nat), vs = [v, w, u, .ref p] ∧ RoomV K H v n ∧ n ≤ 7 ∧ FlatV K H w hs ∧ FlatOk hs ∧ (∀ e ∈ hs, e.2.1 < 2 ^ n) ∧ SumV K H u m ∧ m < 2 ^ n ∧
  (wh hs (m, 0)).1 ≠ 0 ∧ SqT K H p [v0, v1] ∧ OptFlat K H v0 (lflat (canon hs ++ [(m, 0)])) ∧ OptFlat K H v1 (lflat (canon hs ++ [(m, 1)])) ∧ ∀ H', Same H H' → Q (.bl true) H'
def sp_law_is_told_right (K : PySem.W.Frag) : Sp := fun vs H Q _ => ∃ (v w u : V) (n : Nat) (hs : List (Nat × Nat × Nat)) (m : Nat), vs = [v, w, u] ∧ RoomV K H v n ∧ n ≤ 7 ∧ FlatV K H w hs ∧ FlatOk hs ∧ (∀ e ∈ hs, e.2.1 < 2 ^ n) ∧ SumV K H u m ∧ m < 2 ^ n ∧ ∀ H', Same H H' → Q (.bl true) H'
theorem canon_below {hs : List (Nat × Nat × Nat)} (F : FlatOk hs) {n : Nat} (hlt : ∀ e ∈ hs, e.2.1 < 2 ^ n) : ∀ l ∈ canon hs, l.1 < 2 ^ n ∧ l.2 < 2 := fun l hl => by
  obtain ⟨e, he, rfl⟩ := canon_mem F hl
  exact ⟨hlt e he, F.bit e he⟩
def col (P : Nat) : Nat → Nat
  | 0 => 0
  | k + 1 => col P k ||| (((2 ^ 2 ^ P - 1) * 2 ^ 2 ^ P) * 2 ^ (2 * 2 ^ P * k))
theorem col_bit (P k s : Nat) : (col P k).testBit s = (decide (s < 2 * 2 ^ P * k) && s.testBit P) := by
  have w0 : 0 < 2 ^ P := Nat.two_pow_pos P
  have eb : s.testBit P = decide (s / 2 ^ P % 2 = 1) := Nat.testBit_eq_decide_div_mod_eq
  induction k with
  | zero =>
    unfold col
    rw [Nat.zero_testBit, Nat.mul_zero, decide_eq_false (Nat.not_lt_zero s)]
    rfl
  | succ k ih =>
    unfold col
    rw [Nat.testBit_or, ih, Nat.testBit_mul_two_pow, Nat.testBit_mul_two_pow, Nat.testBit_two_pow_sub_one, eb]
    generalize 2 ^ P = w at w0
    have e1 : 2 * w * (k + 1) = 2 * w * k + 2 * w := by rw [Nat.mul_add, Nat.mul_one]
    rw [e1]
    by_cases h1 : s < 2 * w * k
    · rw [decide_eq_true h1, decide_eq_false (show ¬ 2 * w * k ≤ s by omega), decide_eq_true (show s < 2 * w * k + 2 * w by omega)]
      simp
    · obtain ⟨t, rfl⟩ : ∃ t, s = 2 * w * k + t := ⟨s - 2 * w * k, by omega⟩
      rw [decide_eq_false h1, decide_eq_true (show 2 * w * k ≤ 2 * w * k + t by omega)]
      have e2 : 2 * w * k + t - 2 * w * k = t := by omega
      have e3 : (2 * w * k + t) / w = 2 * k + t / w := by
        rw [show 2 * w * k = w * (2 * k) by rw [Nat.mul_comm 2 w, Nat.mul_assoc], Nat.mul_add_div w0]
      rw [e2, e3]
      by_cases h2 : t < 2 * w
      · rw [decide_eq_true (show 2 * w * k + t < 2 * w * k + 2 * w by omega)]
        by_cases h3 : w ≤ t
        · have e4 : t / w = 1 := Nat.div_eq_of_lt_le (by omega) (by omega)
          rw [e4, decide_eq_true h3, decide_eq_true (show t - w < w by omega), decide_eq_true (show (2 * k + 1) % 2 = 1 by omega)]
          rfl
        · have e4 : t / w = 0 := Nat.div_eq_of_lt (by omega)
          rw [e4, decide_eq_false h3, decide_eq_false (show ¬ (2 * k + 0) % 2 = 1 by omega)]
          rfl
      · rw [decide_eq_false (show ¬ 2 * w * k + t < 2 * w * k + 2 * w by omega), decide_eq_false (show ¬ t - w < w by omega)]
        simp
theorem col_lt (P k : Nat) : col P k < 2 ^ (2 * 2 ^ P * k) := by
  refine Nat.lt_pow_two_of_testBit _ fun s hs => ?_
  rw [col_bit, decide_eq_false (by omega)]
  rfl
theorem col_is {n u : Nat} (hu : u < n) : BitsOf (2 ^ n) (col (n - 1 - u) (2 ^ u)) (fun s => fS n s u) := by
  have e : 2 * 2 ^ (n - 1 - u) * 2 ^ u = 2 ^ n := by
    rw [Nat.mul_comm 2, ← Nat.pow_succ, ← Nat.pow_add]
    congr 1
    omega
  refine ⟨by have := col_lt (n - 1 - u) (2 ^ u); rwa [e] at this, fun s hs => ?_⟩
  rw [col_bit, e]
  unfold fS
  rw [decide_eq_true hs, decide_eq_true hu]
def canB (hs : List (Nat × Nat × Nat)) (m b : Nat) : Bool := if (wh hs (m, 0)).1 = 0 then decide ((wh hs (m, 0)).2 = b) else true
theorem worth_can {hs : List (Nat × Nat × Nat)} (F : FlatOk hs) {n m b sx z : Nat} (hn : n ≤ 62) (hlt : ∀ e ∈ hs, e.2.1 < 2 ^ n) (hm : m < 2 ^ n) (hb : b < 2)
    (hsx : BitsOf (2 ^ n) sx (fun s => (canon hs).all fun l => holdsB l (fS n s))) (hz : BitsOf (2 ^ n) z (fun s => holdsB (m, b) (fS n s))) : 0 < sx &&& z ↔ canB hs m b = true := by
  have m63 : m < 2 ^ 63 := Nat.lt_of_lt_of_le hm (Nat.pow_le_pow_right (by decide) (by omega))
  have r2 := wh_bit F.bit (m, 0) (by show 0 < 2; decide)
  have some_ : (0 < sx &&& z) ↔ ∃ f, sol hs f ∧ holdsL (m, b) f := by
    rw [(hsx.and hz).pos]
    constructor
    · rintro ⟨s, _, h⟩
      rw [Bool.and_eq_true, all_canon F, holdsB_iff] at h
      exact ⟨_, h⟩
    · rintro ⟨f, h1, h2⟩
      obtain ⟨s, hs1, hs2⟩ := holds_num (n := n) f
      refine ⟨s, hs1, ?_⟩
      rw [Bool.and_eq_true, all_canon F, holdsB_iff]
      exact ⟨fun e he => (hs2 e.2 (hlt e he)).mpr (h1 e he), (hs2 (m, b) hm).mpr h2⟩
  rw [some_]
  obtain ⟨w1, w2⟩ := wh_row hs m 0 b
  rw [Nat.xor_zero] at w2
  unfold canB
  by_cases zz : (wh hs (m, 0)).1 = 0
  · rw [if_pos zz, decide_eq_true_eq]
    have key : ∀ f, sol hs f → (holdsL (m, b) f ↔ (wh hs (m, 0)).2 = b) := fun f s => by
      rw [flat_told F (l := (m, b)) hb (by rw [← w1]; exact zz) s, ← w2]
      have h1 : (wh hs (m, 0)).2 = 0 ∨ (wh hs (m, 0)).2 = 1 := by omega
      have h2 : b = 0 ∨ b = 1 := by omega
      rcases h1 with h1 | h1 <;> rcases h2 with h2 | h2 <;> rw [h1, h2] <;> decide
    constructor
    · rintro ⟨f, s, h⟩
      exact (key f s).mp h
    · intro h
      obtain ⟨f, s⟩ := flat_has F
      exact ⟨f, s, (key f s).mpr h⟩
  · rw [if_neg zz]
    exact ⟨fun _ => rfl, fun _ => flat_free F (l := (m, b)) m63 hb (by rw [← w1]; exact zz)⟩
def flatD (hs : List (Nat × Nat × Nat)) : PyData := .tuple ((canon hs).map lineD)
theorem dp_lines {K : PySem.W.Frag} {H : Hp} : ∀ {us : List V} {ls : List (Nat × Nat)}, Paired (LineV K H) us ls → DpAll K H us (ls.map lineD)
  | _, _, .nil => .nil
  | _, _, .cons h t => .cons (dp_line h) (dp_lines t)
theorem dp_flat {K : PySem.W.Frag} {H : Hp} {v : V} {hs : List (Nat × Nat × Nat)} (h : FlatV K H v hs) : Dp K H v (flatD hs) := by
  obtain ⟨t, us, rfl, h1, h2⟩ := h
  exact .tup h1 (dp_lines h2)
theorem weight_line {l : Nat × Nat} (h : l.2 < 2) : (lineD l).weight ≤ 444 := by
  have w1 := weight_sumD l.1
  have w2 : PyData.weight (.int (l.2 : Int)) ≤ 1 := weight_int (show l.2 < 2 ^ 1 by omega)
  show (sumD l.1).weight + 1 + (PyData.weight (.int (l.2 : Int)) + 1 + 0) ≤ 444
  omega
theorem weight_lines : ∀ {ls : List (Nat × Nat)}, (∀ l ∈ ls, l.2 < 2) → PyData.weightAll (ls.map lineD) ≤ 445 * ls.length
  | [], _ => Nat.zero_le _
  | l :: ls, h => by
    have w1 := weight_line (h l List.mem_cons_self)
    have w2 := weight_lines fun x hx => h x (List.mem_cons_of_mem _ hx)
    show (lineD l).weight + 1 + PyData.weightAll (ls.map lineD) ≤ _
    rw [List.length_cons]
    omega
theorem depth_lines : ∀ ls : List (Nat × Nat), PyData.depthAll (ls.map lineD) ≤ 2
  | [] => Nat.zero_le _
  | l :: ls => by
    show max (lineD l).depth (PyData.depthAll (ls.map lineD)) ≤ 2
    rw [depth_lineD]
    exact Nat.max_le.mpr ⟨Nat.le_refl _, depth_lines ls⟩
theorem flatD_facts {hs : List (Nat × Nat × Nat)} (F : FlatOk hs) : nice (flatD hs) = true ∧ (flatD hs).depth ≤ 3 ∧ (flatD hs).weight ≤ 30000 := by
  refine ⟨?_, ?_, ?_⟩
  · refine niceAll_iff.mpr fun x hx => ?_
    obtain ⟨l, hl, rfl⟩ := List.mem_map.mp hx
    exact nice_line (canon_lt F l hl).2
  · show PyData.depthAll _ + 1 ≤ 3
    have := depth_lines (canon hs)
    omega
  · have w := weight_lines (ls := canon hs) fun l hl => (canon_lt F l hl).2
    have := canon_len hs
    show PyData.weightAll _ ≤ 30000
    omega
theorem pairFD_facts {hs : List (Nat × Nat × Nat)} (F : FlatOk hs) (m : Nat) : nice (.list [flatD hs, sumD m]) = true ∧ (PyData.list [flatD hs, sumD m]).depth ≤ 40 ∧ (PyData.list [flatD hs, sumD m]).weight ≤ 2 ^ 20 := by
  obtain ⟨f1, f2, f3⟩ := flatD_facts F
  refine ⟨?_, ?_, ?_⟩
  · refine niceAll_iff.mpr fun x hx => ?_
    rcases List.mem_cons.mp hx with rfl | hx
    · exact f1
    · rcases List.mem_cons.mp hx with rfl | hx
      · exact nice_sumD m
      · cases hx
  · show max (flatD hs).depth (max (sumD m).depth 0) + 1 ≤ 40
    rw [depth_sumD]
    have := Nat.max_le.mpr ⟨f2, (show max 1 0 ≤ 3 by decide)⟩
    omega
  · have w := weight_sumD m
    show (flatD hs).weight + 1 + ((sumD m).weight + 1 + 0) ≤ 2 ^ 20
    omega
def toldD (hs : List (Nat × Nat × Nat)) (m : Nat) : PyData := if (wh hs (m, 0)).1 = 0 then .int ((wh hs (m, 0)).2 : Int) else .none
theorem FlatV.bag {K : PySem.W.Frag} {H H' : Hp} {b c : Addr} {v : V} {hs : List (Nat × Nat × Nat)} (B : BagAt K H b c) (s : But b H H') (h : FlatV K H v hs) : FlatV K H' v hs := by
  obtain ⟨y, e⟩ := B.lst
  obtain ⟨t, us, rfl, h1, h2⟩ := h
  exact ⟨t, us, rfl, sqT_but e s h1, lines_but e s h2⟩
theorem RoomV.bag {K : PySem.W.Frag} {H H' : Hp} {b c : Addr} {v : V} {n : Nat} (B : BagAt K H b c) (s : But b H H') (h : RoomV K H v n) : RoomV K H' v n := by
  obtain ⟨y, e⟩ := B.lst
  obtain ⟨t, d, cs, rfl, h1, h2, h3⟩ := h
  exact ⟨t, d, cs, rfl, sqT_but e s h1, sqT_but e s h2, h3⟩
theorem dp_told {K : PySem.W.Frag} {H : Hp} (hs : List (Nat × Nat × Nat)) (m : Nat) : Dp K H (toldV hs m) (toldD hs m) := by
  unfold toldV toldD
  split
  · exact .int _
  · exact .non
theorem toldD_facts {hs : List (Nat × Nat × Nat)} (F : FlatOk hs) (m : Nat) : nice (toldD hs m) = true ∧ (toldD hs m).depth ≤ 40 ∧ (toldD hs m).weight ≤ 2 ^ 20 := by
  have r2 := wh_bit F.bit (m, 0) (by show 0 < 2; decide)
  unfold toldD
  split
  · refine ⟨?_, Nat.zero_le _, Nat.le_trans (weight_int (k := 1) (by show (wh hs (m, 0)).2 < 2 ^ 1; omega)) (by decide)⟩
    show decide _ = true
    exact decide_eq_true (Nat.lt_of_lt_of_le r2 (by decide))
  · exact ⟨rfl, Nat.zero_le _, Nat.zero_le _⟩
def optFD : Option (List (Nat × Nat × Nat)) → PyData
  | none => .none
  | some hs => flatD hs
theorem dp_optF {K : PySem.W.Frag} {H : Hp} {v : V} {o : Option (List (Nat × Nat × Nat))} (h : OptFlat K H v o) : Dp K H v (optFD o) := by
  cases o with
  | none =>
    have h : v = .non := h
    subst h
    exact .non
  | some hs => exact dp_flat h
theorem optFD_facts {ls : List (Nat × Nat)} (hl : ∀ l ∈ ls, l.1 < 2 ^ 63 ∧ l.2 < 2) : nice (optFD (lflat ls)) = true ∧ (optFD (lflat ls)).depth ≤ 3 ∧ (optFD (lflat ls)).weight ≤ 30000 := by
  cases q : lflat ls with
  | none => exact ⟨rfl, Nat.zero_le _, Nat.zero_le _⟩
  | some hs => exact flatD_facts (lflat_flat ls hl hs q)
theorem pairOF_facts {ls ks : List (Nat × Nat)} (hl : ∀ l ∈ ls, l.1 < 2 ^ 63 ∧ l.2 < 2) (hk : ∀ l ∈ ks, l.1 < 2 ^ 63 ∧ l.2 < 2) :
    nice (.tuple [optFD (lflat ls), optFD (lflat ks)]) = true ∧ (PyData.tuple [optFD (lflat ls), optFD (lflat ks)]).depth ≤ 40 ∧ (PyData.tuple [optFD (lflat ls), optFD (lflat ks)]).weight ≤ 2 ^ 20 := by
  obtain ⟨a1, a2, a3⟩ := optFD_facts hl
  obtain ⟨b1, b2, b3⟩ := optFD_facts hk
  refine ⟨?_, ?_, ?_⟩
  · refine niceAll_iff.mpr fun x hx => ?_
    rcases List.mem_cons.mp hx with rfl | hx
    · exact a1
    · rcases List.mem_cons.mp hx with rfl | hx
      · exact b1
      · cases hx
  · show max _ (max _ 0) + 1 ≤ 40
    have := Nat.max_le.mpr ⟨a2, Nat.max_le.mpr ⟨b2, Nat.zero_le 3⟩⟩
    omega
  · show (optFD (lflat ls)).weight + 1 + ((optFD (lflat ks)).weight + 1 + 0) ≤ 2 ^ 20
    omega
end Es
set_option Elab.async false
set_option linter.all false
set_option maxRecDepth 100000
set_option maxHeartbeats 4000000
namespace Es
open PySem PySem.Spec PyProof.Rows L2
section
variable {P : Program} {w : World}
mutual
def num : NestedKey → Bool
  | .none => false
  | .num _ => true
  | .text _ => false
  | .tup ks => nums ks
def nums : List NestedKey → Bool
  | [] => true
  | k :: ks => num k && nums ks
end
def Says (P : Program) (w : World) (m : Sem Bool) (b : Bool) (s : Shared) : Prop := ∀ (A : Around) (E : Value → Shared → Prop) (Q : Bool → Shared → Prop), Q b s → wpAny (model P w) A m Q E s
theorem Says.now {m : Sem Bool} {b : Bool} {s : Shared} (e : m = pure b) : Says P w m b s := fun A E Q h => by
  rw [e]
  exact wpAny_pure h
theorem Says.stmt_tuple {n : Nat} {s : Shared} {a : Addr} {o : Obj} {vs : Array Value} {m : Nat} (ho : s.heap.get? a = some o) (hc : o.cls = .type "tuple") (hd : o.data = .seq vs m)
    (hq : ∀ v ∈ vs.toList, Says P w (ofAClassStatement n v) false s) : Says P w (ofAClassStatement (n + 1) (.ref a)) false s := fun A E Q h => by
  unfold ofAClassStatement
  refine wpAny_bind (wpAny_typeOf (T := "tuple") ⟨o, ho, hc⟩ ?_)
  dsimp only
  simp only [show (("tuple" : String) == "tuple") = true from by decide, if_true]
  try refine wpAny_bind (wpAny_pure ?_)
  try simp only [Bool.not_true, Bool.false_eq_true, if_false]
  show wpAny _ _ (seqItems? (.ref a) >>= _) _ _ s
  refine wpAny_bind (wpAny_seqItems ho hd ?_)
  dsimp only
  refine wpAny_bind ?_
  show wpAny _ _ (forIn vs _ _) _ _ s
  rw [← Array.forIn_toList]
  refine wpAny_forIn_list _ (fun left r u => (r.1 = none ∧ u = s) ∧ ∀ v ∈ left, Says P w (ofAClassStatement n v) false s) _ ?_ ?_ _ _ ⟨⟨rfl, rfl⟩, hq⟩
  · rintro v left r u ⟨⟨hr, rfl⟩, hall⟩
    refine wpAny_bind (hall v List.mem_cons_self _ _ _ ?_)
    simp only [Bool.false_eq_true, if_false]
    exact wpAny_pure ⟨⟨rfl, rfl⟩, fun x hx => hall x (List.mem_cons_of_mem _ hx)⟩
  · rintro ⟨r1, r2⟩ u ⟨⟨hr, rfl⟩, _⟩
    have hr : r1 = none := hr
    subst hr
    exact wpAny_pure h
theorem Says.hash_tuple {n : Nat} {s : Shared} {a : Addr} {o : Obj} {vs : Array Value} {m : Nat} (ho : s.heap.get? a = some o) (hc : o.cls = .type "tuple") (hd : o.data = .seq vs m)
    (hq : ∀ v ∈ vs.toList, Says P w (hashByValue n v) true s) : Says P w (hashByValue (n + 1) (.ref a)) true s := fun A E Q h => by
  unfold hashByValue
  refine wpAny_bind (wpAny_specialOf (T := "tuple") ⟨o, ho, hc⟩ PySem.F.slot_tuple_hash.lookup ?_)
  show wpAny _ _ (seqItems? (.ref a) >>= _) _ _ s
  refine wpAny_bind (wpAny_seqItems ho hd ?_)
  refine wpAny_bind ?_
  show wpAny _ _ (forIn vs _ _) _ _ s
  rw [← Array.forIn_toList]
  refine wpAny_forIn_list _ (fun left r u => (r.1 = none ∧ u = s) ∧ ∀ v ∈ left, Says P w (hashByValue n v) true s) _ ?_ ?_ _ _ ⟨⟨rfl, rfl⟩, hq⟩
  · rintro v left r u ⟨⟨hr, rfl⟩, hall⟩
    refine wpAny_bind (hall v List.mem_cons_self _ _ _ ?_)
    simp only [Bool.not_true, Bool.false_eq_true, if_false]
    exact wpAny_pure ⟨⟨rfl, rfl⟩, fun x hx => hall x (List.mem_cons_of_mem _ hx)⟩
  · rintro ⟨r1, r2⟩ u ⟨⟨hr, rfl⟩, _⟩
    have hr : r1 = none := hr
    subst hr
    exact wpAny_pure h
mutual
theorem stmt_key : ∀ (k : NestedKey) (v : Value) (n : Nat) (s : Shared), NestedIs s.heap k v → k.depth ≤ n → Says P w (ofAClassStatement n v) false s
  | .none, _, n, s, x, _ => by cases x; exact .now (by cases n <;> rfl)
  | .num i, _, n, s, x, _ => by cases x <;> exact .now (by cases n <;> rfl)
  | .text y, _, n, s, x, _ => by cases x; exact .now (by cases n <;> rfl)
  | .tup ks, _, n, s, x, hn => by
    cases x with
    | tup h1 h2 h3 h4 =>
      rw [NestedKey.depth] at hn
      obtain ⟨n, rfl⟩ : ∃ m, n = m + 1 := ⟨n - 1, by omega⟩
      exact .stmt_tuple h1 h2 h3 (stmt_keys ks _ n s h4 (by omega))
theorem stmt_keys : ∀ (ks : List NestedKey) (vs : List Value) (n : Nat) (s : Shared), NestedAll s.heap ks vs → NestedKey.depthAll ks ≤ n → ∀ v ∈ vs, Says P w (ofAClassStatement n v) false s
  | [], _, n, s, x, _, v, hv => by cases x; cases hv
  | k :: ks, _, n, s, x, hn, v, hv => by
    cases x with
    | cons x1 x2 =>
      rw [NestedKey.depthAll] at hn
      rcases List.mem_cons.mp hv with e | hv
      · subst e; exact stmt_key k _ n s x1 (by omega)
      · exact stmt_keys ks _ n s x2 (by omega) v hv
end
mutual
theorem hash_key : ∀ (k : NestedKey) (v : Value) (n : Nat) (s : Shared), NestedIs s.heap k v → k.depth ≤ n → num k = true → Says P w (hashByValue n v) true s
  | .none, _, n, s, x, _, h => by simp [num] at h
  | .num i, _, n, s, x, _, _ => by cases x <;> exact .now (by cases n <;> rfl)
  | .text y, _, n, s, x, _, h => by simp [num] at h
  | .tup ks, _, n, s, x, hn, h => by
    cases x with
    | tup h1 h2 h3 h4 =>
      rw [NestedKey.depth] at hn
      rw [num] at h
      obtain ⟨n, rfl⟩ : ∃ m, n = m + 1 := ⟨n - 1, by omega⟩
      exact .hash_tuple h1 h2 h3 (hash_keys ks _ n s h4 (by omega) h)
theorem hash_keys : ∀ (ks : List NestedKey) (vs : List Value) (n : Nat) (s : Shared), NestedAll s.heap ks vs → NestedKey.depthAll ks ≤ n → nums ks = true → ∀ v ∈ vs, Says P w (hashByValue n v) true s
  | [], _, n, s, x, _, _, v, hv => by cases x; cases hv
  | k :: ks, _, n, s, x, hn, h, v, hv => by
    cases x with
    | cons x1 x2 =>
      rw [NestedKey.depthAll] at hn
      rw [nums, Bool.and_eq_true] at h
      rcases List.mem_cons.mp hv with e | hv
      · subst e; exact hash_key k _ n s x1 (by omega) h.1
      · exact hash_keys ks _ n s x2 (by omega) h.2 v hv
end
def numKind (P : Program) (w : World) : HeapKind P w NestedKey where
  is := fun h k a => NestedIs h k (.ref a) ∧ k.depth ≤ 8 ∧ num k = true
  hash := fun k => k.hash w
  draws := fun k => k.draws
  room := fun A => A.units + 8 < cLine
  inj := fun hx hy => NestedIs.inj _ _ _ hx.1 hy.1
  keeps := fun x ho hd hs => by
    have y := (nestedKind P w).keeps ⟨x.1, x.2.1⟩ ho hd hs
    exact ⟨y.1, y.2, x.2.2⟩
  pyHash := fun hu hk h => (nestedKind P w).pyHash hu ⟨hk.1, hk.2.1⟩ h
  eqBool := fun hu hx hy h => (nestedKind P w).eqBool hu ⟨hx.1, hx.2.1⟩ ⟨hy.1, hy.2.1⟩ h
  quiet := fun hk h => (nestedKind P w).quiet ⟨hk.1, hk.2.1⟩ h
structure Mute {κ : Type} [DecidableEq κ] (G : HeapKind P w κ) : Prop where
  st : ∀ {h h' : Heap} {k : κ} {a : Addr}, (∀ b o vs m, h.get? b = some o → o.data = .seq vs m → h'.get? b = some o) → G.is h k a → G.is h' k a
  own : ∀ {s : Shared} {k : κ} {a : Addr}, G.is s.heap k a → Says P w (ofAClassStatement 8 (.ref a)) false s
  val : ∀ {s : Shared} {k : κ} {a : Addr}, G.is s.heap k a → Says P w (hashByValue 8 (.ref a)) true s
theorem num_mute : Mute (numKind P w) where
  st := fun hk x => ⟨NestedIs.at hk _ _ x.1, x.2⟩
  own := fun x => stmt_key _ _ 8 _ x.1 x.2.1
  val := fun x => hash_key _ _ 8 _ x.1 x.2.1 x.2.2
end
section
variable {P : Program} {w : World} {κ : Type} [DecidableEq κ] {G : HeapKind P w κ} {A : Around} {E : Value → Shared → Prop} {s : Shared}
abbrev stp (m : Nat) (h : Int) (c : Nat) : SetTable.Probe := nth m (runAt m (SetTable.bits h % (m + 1)) (SetTable.bits h)) c
theorem stp_add (m : Nat) (h : Int) (c d : Nat) : nth m (stp m h c) d = stp m h (c + d) := (nth_add m c _ d).symm
theorem stp_clean (m : Nat) (h : Int) (c : Nat) : (stp m h c).dummy = none := by
  have go : ∀ (c : Nat) (p : SetTable.Probe), p.dummy = none → (nth m p c).dummy = none := by
    intro c
    induction c with
    | zero => exact fun p e => e
    | succ c ih =>
      intro p e
      refine ih (adv m p) ?_
      unfold adv
      split <;> exact e
  exact go c _ rfl
theorem seen_not (M : Mute G) {k : κ} {b : Addr} (hk : G.is s.heap k b) {ys : List Value} (hy : ∀ y ∈ ys, ∃ k' c, y = Value.ref c ∧ G.is s.heap k' c) : Says P w (searchCouldBeSeen (.ref b) ys) false s := fun A E Q h => by
  unfold searchCouldBeSeen
  refine wpAny_bind ?_
  refine wpAny_forIn_list _ (fun left r u => (r.1 = none ∧ u = s) ∧ ∀ y ∈ left, ∃ k' c, y = Value.ref c ∧ G.is s.heap k' c) _ ?_ ?_ _ _ ⟨⟨rfl, rfl⟩, hy⟩
  · rintro v left r u ⟨⟨hr, rfl⟩, hall⟩
    obtain ⟨k', c, rfl, hc⟩ := hall v List.mem_cons_self
    have more : ∀ y ∈ left, ∃ k' c, y = Value.ref c ∧ G.is u.heap k' c := fun y hy => hall y (List.mem_cons_of_mem _ hy)
    dsimp only
    by_cases z : (b == c || (carriedByValue (.ref b) && carriedByValue (.ref c))) = true
    · exact wp_if_pos z (wpAny_pure ⟨⟨rfl, rfl⟩, more⟩)
    · refine wp_if_neg z (wpAny_bind (G.quiet hk ?_))
      simp only [Bool.not_true, Bool.false_eq_true, if_false]
      refine wpAny_bind (G.quiet hc ?_)
      simp only [Bool.not_true, Bool.false_eq_true, if_false]
      refine wpAny_bind (M.own hk _ _ _ ?_)
      simp only [Bool.false_eq_true, if_false]
      refine wpAny_bind (M.own hc _ _ _ ?_)
      simp only [Bool.false_eq_true, if_false]
      exact wpAny_pure ⟨⟨rfl, rfl⟩, more⟩
  · rintro ⟨r1, r2⟩ u ⟨⟨hr, rfl⟩, _⟩
    have hr : r1 = none := hr
    subst hr
    exact wpAny_pure h
def ents (G : HeapKind P w κ) (L : List (Addr × κ)) : List (Int × Value) := L.map fun e => (G.hash e.2, Value.ref e.1)
def hashs (G : HeapKind P w κ) (L : List (Addr × κ)) : List Int := L.map fun e => G.hash e.2
theorem ents_len (L : List (Addr × κ)) : (ents G L).length = L.length := List.length_map _
theorem hashs_len (L : List (Addr × κ)) : (hashs G L).length = L.length := List.length_map _
theorem ents_get {L : List (Addr × κ)} {i : Nat} {e : Addr × κ} (h : L[i]? = some e) : (ents G L)[i]? = some (G.hash e.2, Value.ref e.1) := by
  unfold ents
  rw [List.getElem?_map, h]
  rfl
theorem hashs_get {L : List (Addr × κ)} {i : Nat} {e : Addr × κ} (h : L[i]? = some e) : (hashs G L)[i]? = some (G.hash e.2) := by
  unfold hashs
  rw [List.getElem?_map, h]
  rfl
structure Stand (G : HeapKind P w κ) (h : Heap) (S : Addr) (L : List (Addr × κ)) (es : Array (Int × Value)) (n : Nat) (t : SetTable) : Prop where
  obj : ∃ o, h.get? S = some o ∧ o.ExactSet ∧ o.data = .set es n t
  inn : es.toList = ents G L
  tab : TabOk t (hashs G L)
  once : (L.map (·.2)).Nodup
  keys : ∀ e ∈ L, G.is h e.2 e.1
  even : t.plain = true
  ord : w.params.followText "set-order" = true ∨ t.led = true
  space : L.length * 5 < t.mask * 3
  small : L.length < 64
variable {S : Addr} {L : List (Addr × κ)} {es : Array (Int × Value)} {n : Nat} {t : SetTable}
theorem ents_size (h : es.toList = ents G L) : es.size = L.length := by
  rw [← Array.length_toList, h, ents_len]
theorem Stand.len (R : Stand G s.heap S L es n t) : es.size = L.length := ents_size R.inn
theorem fits_of (h1 : t.place.size = es.size) (h2 : t.dummies = #[]) (h3 : es.size ≤ t.mask) : t.fits es.size = true := by
  unfold SetTable.fits SetTable.fill
  rw [h2, Bool.and_eq_true, beq_iff_eq, decide_eq_true_eq]
  refine ⟨h1, ?_⟩
  show t.place.size + 0 ≤ t.mask
  omega
theorem Stand.places (R : Stand G s.heap S L es n t) : t.place.size = L.length := R.tab.sz.trans (hashs_len L)
theorem Stand.fits (R : Stand G s.heap S L es n t) : t.fits es.size = true := by
  have a := R.len
  have b := R.places
  have c := R.space
  exact fits_of (by omega) R.tab.dm (by omega)
theorem Stand.get (R : Stand G s.heap S L es n t) {i : Nat} {e : Addr × κ} (h : L[i]? = some e) : es[i]? = some (G.hash e.2, Value.ref e.1) := by
  rw [← Array.getElem?_toList, R.inn]
  exact ents_get h
theorem Stand.firm (R : Stand G s.heap S L es n t) : ¬ t.gaveWay = true := by
  unfold SetTable.gaveWay
  rw [mask_odd R.tab.mok]
  decide
theorem Stand.some_at (R : Stand G s.heap S L es n t) {i j : Nat} (h : t.place.toList[i]? = some j) : ∃ e, L[i]? = some e ∧ e ∈ L := by
  have a : i < t.place.toList.length := (List.getElem?_eq_some_iff.mp h).1
  rw [Array.length_toList, R.places] at a
  exact ⟨L[i], List.getElem?_eq_getElem a, List.getElem_mem a⟩
theorem seek (M : Mute G) (R : Stand G s.heap S L es n t) {x : Addr} {k : κ} (hx : G.is s.heap k x) (hu : G.room A) {K : Nat} (lim : K < 10 * SetTable.turns t.mask)
    (free : way t.mask (G.hash k) K ∉ t.place.toList) (taken : ∀ c, c < K → way t.mask (G.hash k) c ∈ t.place.toList) {Q : SetFound → Shared → Prop}
    (yes : k ∈ L.map (·.2) → Q (.there none) s) (no : k ∉ L.map (·.2) → Q (.free (way t.mask (G.hash k) K) false) s) :
    ∀ (f c : Nat) (from_ : Option SetTable.Probe), from_.getD (t.probeStart (G.hash k)) = stp t.mask (G.hash k) c → c ≤ K → K - c < f →
      (∀ (i : Nat) e, L[i]? = some e → e.2 = k → ∃ d, (c ≤ d ∧ d < K) ∧ t.place.toList[i]? = some (way t.mask (G.hash k) d)) →
      wpAny (model P w) A (setSearchFrom S (.ref x) (G.hash k) true f from_) Q E s := by
  obtain ⟨o, ho, hex, hd⟩ := R.obj
  intro f
  induction f with
  | zero => exact fun c _ _ _ z => absurd z (Nat.not_lt_zero _)
  | succ f ih =>
    intro c from_ start le fuel ahead
    rw [setSearchFrom_succ]
    refine wpAny_bind (wpAny_setState_of ho hd R.fits ?_)
    dsimp only
    refine wp_if_neg R.firm ?_
    try refine wpAny_bind (wpAny_pure ?_)
    have wj : ∀ d, (nth t.mask (stp t.mask (G.hash k) c) d).j = way t.mask (G.hash k) (c + d) := fun d => congrArg SetTable.Probe.j (stp_add t.mask (G.hash k) c d)
    have hAt : ∀ (i : Nat) e, L[i]? = some e → (es[i]?.map (·.1)).getD 0 = G.hash e.2 := fun i e h => by
      rw [R.get h]
      rfl
    have back : ∀ (i : Nat) e d, L[i]? = some e → e.2 = k → t.place.toList[i]? = some (way t.mask (G.hash k) d) → c ≤ d →
        t.place.toList[i]? = some (nth t.mask (stp t.mask (G.hash k) c) (d - c)).j ∧ (es[i]?.map (·.1)).getD 0 = G.hash k := fun i e d h1 h2 h3 h4 => by
      rw [wj, Nat.add_sub_cancel' h4]
      exact ⟨h3, by rw [hAt i e h1, h2]⟩
    rcases go_spec t R.tab.ris R.tab.dm (fun i => (es[i]?.map (·.1)).getD 0) (G.hash k) (10 * SetTable.turns t.mask) (K - c) (stp t.mask (G.hash k) c) (stp_clean ..) (by omega)
      (fun d hd => by rw [wj]; exact taken (c + d) (by omega)) (by rw [wj, Nat.add_sub_cancel' le]; exact free) with ⟨q, i, hq, hi, _, before, met⟩ | ⟨before, met⟩
    · have met : t.probe (fun i => (es[i]?.map (·.1)).getD 0) (G.hash k) (from_.getD (t.probeStart (G.hash k))) = some (.candidate (way t.mask (G.hash k) (c + q)) i (stp t.mask (G.hash k) (c + (q + 1)))) := by
        rw [start, ← wj, ← stp_add]
        exact met
      rw [met]
      dsimp only
      rw [wj] at hi
      obtain ⟨e, he, mem⟩ := R.some_at hi
      have live : t.slot (way t.mask (G.hash k) (c + q)) = .live i := slot_live R.tab.ris hi
      have rest : wpAny (model P w) A (searchRest S (.ref x) (G.hash k) true f es t (way t.mask (G.hash k) (c + q)) i (stp t.mask (G.hash k) (c + (q + 1)))) Q E s := by
        unfold searchRest
        rw [R.get he]
        dsimp only
        refine wpAny_bind (wpAny_holding (G.eqBool hu (R.keys e mem) hx ?_))
        refine wpAny_bind (wpAny_setState_of ho hd R.fits ?_)
        dsimp only
        by_cases same : e.2 = k
        · refine wp_if_pos (by simp [same]) (wpAny_pure (yes ?_))
          exact List.mem_map.mpr ⟨e, mem, same⟩
        · refine wp_if_neg (by simp [same]) ?_
          try refine wpAny_bind (wpAny_pure ?_)
          rw [sameMem]
          dsimp only
          simp only [if_true, live, R.get he]
          refine wpAny_bind (wpAny_isSame_ref_self (wpAny_bind (wpAny_pure ?_)))
          simp only [if_true]
          refine wp_if_neg (by simp [same]) (ih (c + (q + 1)) _ rfl (by omega) (by omega) fun i2 e2 h2 k2 => ?_)
          obtain ⟨d, ⟨d1, d2⟩, d3⟩ := ahead i2 e2 h2 k2
          refine ⟨d, ⟨?_, d2⟩, d3⟩
          by_cases z : d < c + q
          · obtain ⟨y1, y2⟩ := back i2 e2 d h2 k2 d3 d1
            exact absurd y2 (before (d - c) i2 (by omega) y1)
          · by_cases z2 : d = c + q
            · rw [z2] at d3
              have := (slot_live R.tab.ris d3).symm.trans live
              injection this with this
              rw [this, he] at h2
              exact absurd (by rw [Option.some.inj h2]; exact k2) same
            · omega
      by_cases hl : t.led = true
      · refine wp_if_neg (by simp [hl]) ?_
        try refine wpAny_bind (wpAny_pure ?_)
        exact rest
      · refine wp_if_pos (by simp [hl]) ?_
        refine wpAny_bind (seen_not M hx (fun y hy => ?_) _ _ _ ?_)
        · obtain ⟨v, hv, rfl⟩ := List.mem_map.mp hy
          have hv : v ∈ es ∧ v.1 = G.hash k := by simpa using hv
          have hv : v ∈ ents G L := by
            rw [← R.inn]
            exact Array.mem_toList_iff.mpr hv.1
          obtain ⟨e2, m2, rfl⟩ := List.mem_map.mp hv
          exact ⟨e2.2, e2.1, rfl, R.keys e2 m2⟩
        · refine wp_if_neg (by decide) ?_
          try refine wpAny_bind (wpAny_pure ?_)
          exact rest
    · have met : t.probe (fun i => (es[i]?.map (·.1)).getD 0) (G.hash k) (from_.getD (t.probeStart (G.hash k))) = some (.empty (way t.mask (G.hash k) K) none) := by
        have e2 := wj (K - c)
        rw [Nat.add_sub_cancel' le] at e2
        rw [start, ← e2]
        exact met
      rw [met]
      dsimp only
      refine wpAny_pure (no fun m => ?_)
      obtain ⟨e, he, hk⟩ := List.mem_map.mp m
      obtain ⟨i, lt, rfl⟩ := List.getElem_of_mem he
      have h2 := List.getElem?_eq_getElem lt
      obtain ⟨d, ⟨d1, d2⟩, d3⟩ := ahead i _ h2 hk
      obtain ⟨y1, y2⟩ := back i _ d h2 hk d3 d1
      exact before (d - c) i (by omega) y1 y2
theorem seek_new (M : Mute G) (R : Stand G s.heap S L es n t) {x : Addr} {k : κ} (hx : G.is s.heap k x) (hu : G.room A) {Q : SetFound → Shared → Prop} (yes : k ∈ L.map (·.2) → Q (.there none) s)
    (no : ∀ K, k ∉ L.map (·.2) → way t.mask (G.hash k) K ∉ t.place.toList → (∀ c, c < K → way t.mask (G.hash k) c ∈ t.place.toList) → Q (.free (way t.mask (G.hash k) K) false) s) :
    wpAny (model P w) A (setSearch S (.ref x) (G.hash k) true) Q E s := by
  have sp := R.space
  obtain ⟨K, lim, free, taken⟩ := R.tab.first (by rw [hashs_len]; omega) (G.hash k)
  have big : 10 * SetTable.turns t.mask ≤ 99999 := by
    unfold SetTable.turns
    rcases R.tab.mok with z | z | z <;> rw [z] <;> decide
  unfold setSearch
  refine seek M R hx hu lim free taken yes (fun z => no K z free taken) 100000 0 none rfl (Nat.zero_le _) (by omega) fun i e he hk => ?_
  have lt : i < t.place.toList.length := by
    rw [Array.length_toList, R.places]
    exact (List.getElem?_eq_some_iff.mp he).1
  have hj := List.getElem?_eq_getElem lt
  obtain ⟨d, d1, d2⟩ := R.tab.before free (by rw [← hk]; exact hashs_get he) hj
  exact ⟨d, ⟨Nat.zero_le _, d1⟩, by rw [hj, d2]⟩
theorem but_set {h h' : Heap} {k : κ} {a : Addr} {o : Obj} (M : Mute G) (hk : G.is h k a) (ho : h.get? S = some o) (hd : o.data = .set es n t) (hs : Heap.SameBut S h h') : G.is h' k a := by
  refine M.st (fun b u vs m hb hu => ?_) hk
  refine (hs.2 b fun z => ?_).trans hb
  subst z
  rw [ho] at hb
  rw [← Option.some.inj hb, hd] at hu
  cases hu
theorem picked {order : Array Nat} (hr : es.toList = ents G L) (hp : order.toList.Perm (List.range L.length)) :
    ∃ L2, ((order.filterMap (es[·]?)).toList = ents G L2 ∧ hashs G L2 = order.toList.map fun i => (es.map (·.1)).getD i 0) ∧ L2.Perm L := by
  have ent : ∀ (i : Nat) (lt : i < L.length), es[i]? = some (G.hash L[i].2, Value.ref L[i].1) := fun i lt => by
    rw [← Array.getElem?_toList, hr]
    exact ents_get (List.getElem?_eq_getElem lt)
  have all : ∀ ord : List Nat, (∀ i ∈ ord, i < L.length) → (ord.filterMap (fun i => es[i]?) = ents G (ord.filterMap fun i => L[i]?) ∧ hashs G (ord.filterMap fun i => L[i]?) = ord.map fun i => (es.map (·.1)).getD i 0) := by
    intro ord
    induction ord with
    | nil => exact fun _ => ⟨rfl, rfl⟩
    | cons i ord ih =>
      intro lt
      have li := lt i List.mem_cons_self
      obtain ⟨a, b⟩ := ih fun j hj => lt j (List.mem_cons_of_mem _ hj)
      rw [List.filterMap_cons_some (ent i li), List.filterMap_cons_some (List.getElem?_eq_getElem li)]
      have first : (es.map (·.1)).getD i 0 = G.hash L[i].2 := by
        rw [Array.getD_eq_getD_getElem?, Array.getElem?_map, ent i li]
        rfl
      refine ⟨?_, ?_⟩
      · rw [a]
        rfl
      · rw [List.map_cons, ← b, first]
        rfl
  obtain ⟨a, b⟩ := all order.toList fun i hi => List.mem_range.mp (hp.mem_iff.mp hi)
  refine ⟨_, ⟨by rw [Array.toList_filterMap]; exact a, b⟩, (hp.filterMap _).trans ?_⟩
  have whole : ∀ m, m ≤ L.length → (List.range m).filterMap (fun i => L[i]?) = L.take m := by
    intro m
    induction m with
    | zero => exact fun _ => rfl
    | succ m ih =>
      intro lt
      have e := List.getElem?_eq_getElem (l := L) (Nat.lt_of_succ_le lt)
      rw [List.range_succ, List.filterMap_append, ih (by omega), take_next e, List.filterMap_cons_some e]
      rfl
  have w := whole L.length (Nat.le_refl _)
  rw [List.take_length] at w
  rw [w]
theorem wider (M : Mute G) {o : Obj} (ho : s.heap.get? S = some o) (hex : o.ExactSet) (hd : o.data = .set es n t) (inn : es.toList = ents G L) (hpl : t.place.size = es.size) (hdm : t.dummies = #[]) (hle : es.size ≤ t.mask)
    (once : (L.map (·.2)).Nodup) (keys : ∀ e ∈ L, G.is s.heap e.2 e.1) (even : t.plain = true) (ord : w.params.followText "set-order" = true ∨ t.led = true) (small : L.length < 64) {want m : Nat}
    (hw : SetTable.sizeAbove want - 1 = m) (hm : MaskOk m) (h128 : SetTable.sizeAbove want ≤ 128) (space : L.length * 5 < m * 3) {Q : Unit → Shared → Prop}
    (hQ : ∀ h' L' es' n' t', Heap.SameBut S s.heap h' → Stand G h' S L' es' n' t' → L'.Perm L → Q () { s with heap := h' }) : wpAny (model P w) A (setRelay S want) Q E s := by
  have len := ents_size inn
  obtain ⟨t', order, e, hp, T, em, el, ep, ed⟩ := relaid_ok t (hs := es.map (·.1)) (wanted := want) hw hm (by rw [Array.size_map, len]; omega)
  rw [Array.size_map, len] at hp
  obtain ⟨L2, ⟨r1, r2⟩, pm⟩ := picked inn hp
  rw [← r2] at T
  have len2 : (order.filterMap (es[·]?)).size = L.length := (ents_size r1).trans pm.length_eq
  have sb : Heap.SameBut S s.heap (s.heap.update S (Obj.putSet (order.filterMap (es[·]?)) t')) := Heap.SameBut.update ..
  rw [setRelay_eq]
  refine wpAny_bind (wpAny_setState_of ho hd (fits_of hpl hdm hle) ?_)
  dsimp only
  refine wp_if_neg (by rw [sizeLine_eq]; omega) ?_
  try refine wpAny_bind (wpAny_pure ?_)
  rw [e]
  dsimp only
  refine wpAny_bind ?_
  refine wp_if_neg (by rw [len2, len]; simp) ?_
  try refine wpAny_bind (wpAny_pure ?_)
  refine wpAny_pure ?_
  dsimp only
  refine wpAny_storeSet_of ho hd ?_ (by rw [len2, sizeLine_eq]; omega)
  refine hQ _ L2 (order.filterMap (es[·]?)) (n + 1) t' sb ?_ pm
  exact { obj := ⟨_, store_at ho hd, ⟨hex.1, hex.2.1, hex.2.2⟩, rfl⟩, inn := r1, tab := T, once := (pm.map (·.2)).nodup_iff.mpr once, keys := fun x hx => but_set M (keys x (pm.mem_iff.mp hx)) ho hd sb,
          even := by rw [ep]; exact even, ord := by rw [el]; exact ord, space := by rw [pm.length_eq, em]; exact space, small := by rw [pm.length_eq]; exact small }
theorem put_in (M : Mute G) (R : Stand G s.heap S L es n t) {x : Addr} {k : κ} (hx : G.is s.heap k x) (hu : G.room A) (few : L.length < 63) {Q : Bool → Shared → Prop}
    (hQ : ∀ b h' L' es' n' t', Heap.SameBut S s.heap h' → Stand G h' S L' es' n' t' → (k ∈ L.map (·.2) → L' = L) → (k ∉ L.map (·.2) → L'.Perm ((x, k) :: L)) → Q b { s with heap := h' }) :
    wpAny (model P w) A (setAddHashed S (.ref x) (G.hash k)) Q E s := by
  obtain ⟨o, ho, hex, hd⟩ := R.obj
  have len := R.len
  have space := R.space
  unfold setAddHashed
  refine wpAny_holding ?_
  rw [show (100000 : Nat) = 99999 + 1 from rfl, setAddHashedIn_succ]
  refine wpAny_bind (wpAny_setState_of ho hd R.fits ?_)
  dsimp only
  refine wp_if_neg (by simp [byScan, Value.scannable]) ?_
  try refine wpAny_bind (wpAny_pure ?_)
  refine wpAny_bind (seek_new M R hx hu (fun old => ?_) fun K new free taken => ?_)
  · dsimp only
    exact wpAny_pure (hQ false _ L es n t (Heap.SameBut.refl S _) R (fun _ => rfl) fun z => absurd old z)
  · dsimp only
    refine wpAny_bind (wpAny_setState_of ho hd R.fits ?_)
    dsimp only
    obtain ⟨q1, q2, q3, q4, q5, q6, q7, q8, q9⟩ := R.tab.put free taken
    have even : (t.put (way t.mask (G.hash k) K)).1.plain = true := q6.trans R.even
    generalize t.put (way t.mask (G.hash k) K) = pr at q1 q3 q4 q5 q6 q7 q8 q9 even ⊢
    obtain ⟨t1, at_⟩ := pr
    dsimp only at q1 q3 q4 q5 q6 q7 q8 q9 even ⊢
    subst q1
    first
      | (refine wpAny_bind ?_; refine wp_if_pos even ?_; refine M.val hx _ _ _ ?_)
      | refine wp_if_pos even (wpAny_bind (M.val hx _ _ _ ?_))
    simp only [if_true]
    rw [hashs_len] at q2 q9
    have ins : (SetTable.insertAt es (SetTable.below t.place (way t.mask (G.hash k) K)) (G.hash k, Value.ref x)).toList = ents G (L.take (SetTable.below t.place (way t.mask (G.hash k) K)) ++ (x, k) :: L.drop (SetTable.below t.place (way t.mask (G.hash k) K))) := by
      rw [SetTable.toList_insertAt, R.inn]
      unfold ents
      rw [List.map_append, List.map_cons, List.map_take, List.map_drop]
    generalize SetTable.below t.place (way t.mask (G.hash k) K) = at_ at q2 q3 ins ⊢
    have eh : (hashs G L).take at_ ++ G.hash k :: (hashs G L).drop at_ = hashs G (L.take at_ ++ (x, k) :: L.drop at_) := by
      unfold hashs
      rw [List.map_append, List.map_cons, List.map_take, List.map_drop]
    rw [eh] at q3
    have pm : (L.take at_ ++ (x, k) :: L.drop at_).Perm ((x, k) :: L) := put_perm L at_ (x, k)
    generalize L.take at_ ++ (x, k) :: L.drop at_ = L1 at pm q3 ins
    have len1 : L1.length = L.length + 1 := pm.length_eq
    generalize SetTable.insertAt es at_ (G.hash k, Value.ref x) = es1 at ins ⊢
    have size1 : es1.size = L.length + 1 := (ents_size ins).trans len1
    have once1 : (L1.map (·.2)).Nodup := (pm.map (·.2)).nodup_iff.mpr (List.nodup_cons.mpr ⟨new, R.once⟩)
    refine wpAny_bind (wpAny_storeSet_of ho hd ?_ (by rw [size1, sizeLine_eq]; omega))
    have sb : Heap.SameBut S s.heap (s.heap.update S (Obj.putSet es1 t1)) := Heap.SameBut.update ..
    have ho1 := store_at (es' := es1) (t' := t1) ho hd
    generalize s.heap.update S (Obj.putSet es1 t1) = h1 at sb ho1 ⊢
    have keys1 : ∀ e ∈ L1, G.is h1 e.2 e.1 := fun e he => by
      rcases List.mem_cons.mp (pm.mem_iff.mp he) with rfl | he
      · exact but_set M hx ho hd sb
      · exact but_set M (R.keys e he) ho hd sb
    have ord1 : w.params.followText "set-order" = true ∨ t1.led = true := by
      rw [q5]
      exact R.ord
    have tight : t1.tooFull = true ↔ t1.mask * 3 ≤ (L.length + 1) * 5 := by
      unfold SetTable.tooFull
      rw [decide_eq_true_eq, q9]
    by_cases full : t1.tooFull = true
    · first
        | (refine wpAny_bind ?_; refine wp_if_pos (by simp [full]) ?_)
        | (refine wp_if_pos (by simp [full]) ?_; refine wpAny_bind ?_)
      have tight := tight.mp full
      rw [len]
      have two : (t.mask = 7 ∧ L.length = 4) ∨ (t.mask = 31 ∧ L.length = 18) := by
        rw [q4] at tight
        rcases R.tab.mok with z | z | z <;> rw [z] at tight space
        · exact .inl ⟨z, by omega⟩
        · exact .inr ⟨z, by omega⟩
        · omega
      have more : ∀ m, SetTable.sizeAbove (SetTable.grown (L.length + 1)) - 1 = m → MaskOk m → SetTable.sizeAbove (SetTable.grown (L.length + 1)) ≤ 128 → (L.length + 1) * 5 < m * 3 →
          wpAny (model P w) A (setRelay S (SetTable.grown (L.length + 1))) (fun _ u => wpAny (model P w) A (pure true) Q E u) E { s with heap := h1 } := fun m e1 e2 e3 e4 =>
        wider (s := { s with heap := h1 }) M ho1 ⟨hex.1, hex.2.1, hex.2.2⟩ rfl ins (by rw [q3.sz, hashs_len, len1, size1]) q3.dm (by rw [size1, q4]; rcases two with ⟨y, z⟩ | ⟨y, z⟩ <;> omega) once1 keys1 even ord1 (by omega) e1 e2 e3 (by rw [len1]; exact e4)
          fun h2 L2 es2 n2 t2 sb2 R2 pm2 => wpAny_pure (hQ true h2 L2 es2 n2 t2 (sb.trans sb2) R2 (fun z => absurd z new) fun _ => pm2.trans pm)
      rcases two with ⟨_, z⟩ | ⟨_, z⟩
      · exact more 31 (by rw [z, size_20]) (.inr (.inl rfl)) (by rw [z, size_20]; decide) (by omega)
      · exact more 127 (by rw [z, size_76]) (.inr (.inr rfl)) (by rw [z, size_76]; decide) (by omega)
    · first
        | refine wp_if_neg (by simp [full]) ?_
        | (refine wpAny_bind ?_; refine wp_if_neg (by simp [full]) ?_; refine wpAny_pure ?_)
      refine wpAny_pure (hQ true h1 L1 es1 (n + 1) t1 sb ?_ (fun z => absurd z new) fun _ => pm)
      rw [tight] at full
      exact { obj := ⟨_, ho1, ⟨hex.1, hex.2.1, hex.2.2⟩, rfl⟩, inn := ins, tab := q3, once := once1, keys := keys1, even := even, ord := ord1, space := by rw [len1]; omega, small := by omega }
structure Fed (ks : List (Addr × κ)) (i : Nat) (L : List (Addr × κ)) : Prop where
  from_ : ∀ e ∈ L, e ∈ ks.take i
  have_ : ∀ e ∈ ks.take i, e.2 ∈ L.map (·.2)
  few : L.length ≤ i
theorem Fed.none (ks : List (Addr × κ)) : Fed ks 0 [] := ⟨fun _ h => (by cases h), fun _ h => (by cases h), Nat.le_refl _⟩
theorem Fed.next {ks L L' : List (Addr × κ)} {i : Nat} {e : Addr × κ} (g : Fed ks i L) (h : ks[i]? = some e) (old : e.2 ∈ L.map (·.2) → L' = L) (new : e.2 ∉ L.map (·.2) → L'.Perm (e :: L)) : Fed ks (i + 1) L' := by
  have tk := take_next h
  by_cases z : e.2 ∈ L.map (·.2)
  · rw [old z]
    refine ⟨fun x hx => by rw [tk]; exact List.mem_append_left _ (g.from_ x hx), fun x hx => ?_, Nat.le_succ_of_le g.few⟩
    rw [tk] at hx
    rcases List.mem_append.mp hx with hx | hx
    · exact g.have_ x hx
    · rw [List.mem_singleton.mp hx]
      exact z
  · have pm := new z
    refine ⟨fun x hx => ?_, fun x hx => ?_, by rw [pm.length_eq]; exact Nat.succ_le_succ g.few⟩
    · rw [tk]
      rcases List.mem_cons.mp (pm.mem_iff.mp hx) with rfl | hx
      · exact List.mem_append_right _ (List.mem_singleton.mpr rfl)
      · exact List.mem_append_left _ (g.from_ x hx)
    · rw [tk] at hx
      refine (pm.map (·.2)).mem_iff.mpr ?_
      rcases List.mem_append.mp hx with hx | hx
      · exact List.mem_cons_of_mem _ (g.have_ x hx)
      · rw [List.mem_singleton.mp hx]
        exact List.mem_cons_self
theorem Stand.move {h h' : Heap} (R : Stand G h S L es n t) (ha : ∀ o, h.get? S = some o → h'.get? S = some o) (hk : ∀ e ∈ L, G.is h' e.2 e.1) : Stand G h' S L es n t := by
  obtain ⟨o, ho, r⟩ := R.obj
  exact { R with obj := ⟨o, ha o ho, r⟩, keys := hk }
abbrev Bare (w : World) : Obj := { cls := .type "set", dict := none, data := .set #[] 0 (.fresh 0 0 (!w.params.followText "set-order")) }
theorem bare_stand {h : Heap} (ho : h.get? S = some (Bare w)) : Stand G h S [] #[] 0 (.fresh 0 0 (!w.params.followText "set-order")) where
  obj := ⟨_, ho, ⟨rfl, rfl, rfl⟩, rfl⟩
  inn := rfl
  tab := ⟨List.Pairwise.nil, rfl, rfl, .inl rfl, fun x hx => (by cases hx), fun i y j hi => (by cases hi)⟩
  once := List.nodup_nil
  keys := fun _ hx => (by cases hx)
  even := rfl
  ord := by
    cases z : w.params.followText "set-order" with
    | true => exact .inl rfl
    | false => exact .inr rfl
  space := show 0 * 5 < 7 * 3 by decide
  small := show 0 < 64 by decide
theorem keep_is (M : Mute G) {h h' : Heap} {k : κ} {a : Addr} (hk : ∀ b o, h.get? b = some o → h'.get? b = some o) (x : G.is h k a) : G.is h' k a := M.st (fun b o _ _ e _ => hk b o e) x
theorem feed (M : Mute G) {I : Addr} {fp wr : List Addr} {Gn : Array GenState → Array GenState → Prop} {cnt : Nat} {Pv : Nat → Value → Prop} {St : Nat → Shared → Prop} {R : Result → Shared → Prop}
    (W : WalksS P w A.in1 I fp wr Gn cnt Pv St) (S : Addr) (hS : S ∉ fp) (ks : List (Addr × κ)) (hc : cnt = ks.length) (few : ks.length < 64) (hv : ∀ i v, Pv i v → ∃ e, ks[i]? = some e ∧ v = .ref e.1)
    (h0 : Heap) (hk : ∀ e ∈ ks, G.is h0 e.2 e.1) (new : h0.get? S = none) (wnew : ∀ b ∈ wr, h0.get? b = none) (hu : G.room A.in1)
    (fin : ∀ s' L es n t, Moved (S :: wr) Gn s s' → Stand G s'.heap S L es n t → Fed ks cnt L → (∀ b o, h0.get? b = some o → s'.heap.get? b = some o) → R (.ok (.ret .none)) s') :
    ∀ (m i : Nat) (u : Shared), i + m = cnt → St i u → Moved (S :: wr) Gn s u → (∀ b o, h0.get? b = some o → u.heap.get? b = some o) → (∃ L es n t, Stand G u.heap S L es n t ∧ Fed ks i L) →
      codeAny (model P w) A (.builtin "set.update.loop" ⟨[.ref S, .ref I], []⟩) R u := by
  have nw : S ∉ wr := fun h => hS (W.sub _ h)
  have up : ∀ b ∈ wr, b ∈ S :: wr := fun b h => List.mem_cons_of_mem _ h
  have on : ∀ {u u' : Shared}, Moved wr Gn u u' → (∀ b o, h0.get? b = some o → u.heap.get? b = some o) → ∀ b o, h0.get? b = some o → u'.heap.get? b = some o := fun mv kp b o e =>
    mv.heap b o (fun z => by rw [wnew b z] at e; cases e) (kp b o e)
  have inks : ∀ {i : Nat} {L : List (Addr × κ)}, Fed ks i L → ∀ e ∈ L, e ∈ ks := fun g e he => List.mem_of_mem_take (g.from_ e he)
  intro m
  induction m with
  | zero =>
    rintro i u rfl st mv kp ⟨L, es, n, t, hR, g⟩
    refine codeAny_builtin PyProof.Rows.F.entry_set_update_loop ?_
    rw [Around.under_plainId PyProof.Rows.F.plain_set_update_loop _]
    show wpAny _ A.in1 (pyNext (.ref I) >>= _) _ _ u
    refine wpAny_bind (W.done u _ _ st fun u' mv' => ?_)
    show wpAny _ A.in1 (ret Value.none) _ _ u'
    have kp' := on mv' kp
    exact wpAny_pure (fin u' L es n t (Moved.trans W.gtrans mv (mv'.mono up)) (hR.move (fun o e => mv'.heap S o nw e) fun e he => keep_is M kp' (hk e (inks g e he))) g kp')
  | succ m ih =>
    rintro i u hm st mv kp ⟨L, es, n, t, hR, g⟩
    refine codeAny_builtin PyProof.Rows.F.entry_set_update_loop ?_
    rw [Around.under_plainId PyProof.Rows.F.plain_set_update_loop _]
    show wpAny _ A.in1 (pyNext (.ref I) >>= _) _ _ u
    refine wpAny_bind (W.item i u _ _ (by omega) st fun v u' pv st' mv' => ?_)
    obtain ⟨e, he, rfl⟩ := hv i v pv
    have kp' := on mv' kp
    have hR' : Stand G u'.heap S L es n t := hR.move (fun o z => mv'.heap S o nw z) fun x hx => keep_is M kp' (hk x (inks g x hx))
    have hx : G.is u'.heap e.2 e.1 := keep_is M kp' (hk e (List.mem_of_getElem? he))
    show wpAny _ A.in1 (holding [Value.ref e.1] (setAdd S (.ref e.1)) >>= _) _ _ u'
    refine wpAny_bind (wpAny_holding ?_)
    unfold setAdd
    refine wpAny_holding (wpAny_bind (G.pyHash hu hx ?_))
    refine put_in (s := { u' with toks := u'.toks + G.draws e.2 }) M hR' hx hu (by have := g.few; omega) fun b h2 L2 es2 n2 t2 sb R2 c1 c2 => ?_
    have oth : ∀ b o, b ≠ S → u'.heap.get? b = some o → h2.get? b = some o := fun b o z q => (sb.2 b z).trans q
    refine wpAny_pure ⟨plainId_quiet PyProof.Rows.F.plain_set_update_loop _, ih (i + 1) _ (by omega) (W.frame _ u' _ _ st' (Nat.le_add_right _ _) fun b hb o q => oth b o (fun z => hS (z ▸ hb)) q) ?_ (fun b o q => oth b o (fun z => ?_) (kp' b o q)) ⟨L2, es2, n2, t2, R2, g.next he c1 c2⟩⟩
    · exact Moved.trans W.gtrans mv ((mv'.mono up).then_heap (Nat.le_add_right _ _) fun b o hb q => oth b o (fun z => hb (z ▸ List.mem_cons_self)) q)
    · subst z
      rw [new] at q
      cases q
theorem none_from {h : Heap} (b : Addr) (le : h.objs.size ≤ b) : h.get? b = none := by
  cases q : h.get? b with
  | none => rfl
  | some o => exact absurd (Heap.lt_size q) (Nat.not_lt_of_le le)
theorem set_of_tuple (M : Mute G) {l : Addr} {its : Array Value} (ks : List (Addr × κ)) {Q : Value → Shared → Prop} (hh : A.handled = none) (ht : s.heap.IsTuple l its) (hit : its.toList = ks.map fun e => Value.ref e.1) (hk : ∀ e ∈ ks, G.is s.heap e.2 e.1)
    (few : ks.length < 64) (hu : G.room A.in1.in1.in1)
    (hQ : ∀ (h' : Heap) (tk : Nat) L es n t, Stand G h' s.heap.objs.size L es n t → Fed ks ks.length L → (∀ b o, s.heap.get? b = some o → h'.get? b = some o) → Q (.ref s.heap.objs.size) { s with heap := h', toks := tk }) :
    wpAny (model P w) A (call (.type "set") [.ref l]) Q E s := by
  have cnt : its.size = ks.length := by
    rw [← Array.length_toList, hit, List.length_map]
  have pick : ∀ (i : Nat) (v : Value), its[i]? = some v → ∃ e, ks[i]? = some e ∧ v = .ref e.1 := fun i v hi => by
    rw [← Array.getElem?_toList, hit, List.getElem?_map] at hi
    obtain ⟨e, he, ev⟩ := Option.map_eq_some_iff.mp hi
    exact ⟨e, he, ev.symm⟩
  obtain ⟨c, tl, hmro⟩ := PySem.F.called_set.mro
  have made := PySem.F.called_set.made
  have subT := PySem.F.called_set.sub
  refine wpAny_call (codeAny_of_tree ?_)
  show wpAny _ _ (callAny (.type "set") _) _ _ _
  refine wpAny_pure ⟨Code.quiet_builtin _ (by decide +kernel), codeAny_builtin PySem.F.entry_type_call ?_⟩
  rw [Around.under_plain (weight_type_call_type "set" [.ref l] []) rfl]
  have noT := PySem.F.called_set.notType
  have can := PySem.F.called_set.canCreate
  have tc := PySem.F.typeCall_set_1 (.ref l)
  repeat (any_goals (first | assumption | wp_step))
  refine codeAny_mono (code_set_led1 (.ref l) (E := E) (Q₁ := fun v u => v = .ref s.heap.objs.size ∧ u = { s with heap := s.heap.push (Bare w) }) ⟨rfl, rfl⟩) fun r u hr => ?_
  rcases r with er | fl
  · exact hr
  cases fl with
  | ret v =>
    obtain ⟨e1, e2⟩ := hr
    subst e1 e2
    have got : (s.heap.push (Bare w)).get? s.heap.objs.size = some (Bare w) := Heap.get?_push_size _ rfl
    have ty : Shared.TypeIs { s with heap := s.heap.push (Bare w) } (.ref s.heap.objs.size) "set" := ⟨_, got, rfl⟩
    have look := PySem.F.called_set.init.lookup
    have bnd := PySem.F.called_set.init.bind (.ref s.heap.objs.size)
    repeat (any_goals (first | assumption | wp_step))
    refine codeAny_mono (codeAny_call_builtin (R := wants (fun r u => r = .none ∧ ∃ h' tk L es n t, u = { s with heap := h', toks := tk } ∧ (Stand G h' s.heap.objs.size L es n t ∧ Fed ks ks.length L) ∧ ∀ b o, s.heap.get? b = some o → h'.get? b = some o) E)
      PySem.F.called_set.init.plain PySem.F.entry_set_init (check_set_init_1 ty ?_)) fun r u hr => ?_
    · obtain ⟨o, ho, hc, nl, hd⟩ := ht
      have lt := Heap.lt_size ho
      obtain ⟨ocls, odict, odata, oslots⟩ := o
      dsimp only at hc hd
      subst hc hd
      have inT : (s.heap.push (Bare w)).IsTuple l its := ⟨_, Heap.get?_push_of_some _ ho, rfl, nl, rfl⟩
      have ho2 : (s.heap.push (Bare w)).get? l = some { cls := .type "tuple", dict := odict, data := .seq its nl, slots := oslots } := Heap.get?_push_of_some _ ho
      have sub1 := PySem.F.sub_tuple_set
      have sub2 := PySem.F.sub_tuple_frozenset
      have noD : (Value.type "tuple" == Value.type "dict") = false := by decide
      unfold Builtin.«set.__init__» noKeywords Builtin.Frozenset.updateFrom
      generalize walkIt : pyIter = PI
      wp_walk
      subst walkIt
      refine wpAny_pyIter_tuple inT ?_
      refine wpAny_bind (wpAny_runValue ?_)
      have hh3 : A.in1.in1.in1.handled = none := by simp [hh]
      have sz : (s.heap.push (Bare w)).objs.size = s.heap.objs.size + 1 := Heap.size_push ..
      have apart : l ≠ (s.heap.push (Bare w)).objs.size := by rw [sz]; exact Nat.ne_of_lt (Nat.lt_succ_of_lt lt)
      have out : s.heap.objs.size ∉ [(s.heap.push (Bare w)).objs.size, l] := by
        rw [sz]
        intro z
        rcases List.mem_cons.mp z with z | z
        · exact Nat.ne_of_lt (Nat.lt_succ_self _) z
        · exact Nat.ne_of_gt lt (List.mem_singleton.mp z)
      refine feed (G := G) M (Walks.tuple hh3 _ l apart its).toS s.heap.objs.size out ks cnt few pick s.heap hk (none_from _ (Nat.le_refl _)) (fun b hb => none_from b (by rw [List.mem_singleton.mp hb, sz]; exact Nat.le_succ _)) hu ?fin its.size 0 _ (Nat.zero_add _)
        ⟨⟨_, Heap.get?_push_size _ rfl, rfl, rfl⟩, inT.push _⟩ (Moved.refl (Walks.tuple (prog := P) (w := w) hh3 _ l apart its).toS.grefl) (fun b o e => Heap.get?_push_of_some _ (Heap.get?_push_of_some _ e)) ⟨[], #[], 0, _, bare_stand (Heap.get?_push_of_some _ got), Fed.none ks⟩
      case fin =>
        intro u L es n t mv hR g kp
        obtain ⟨h', g2, d2, tk, os2⟩ := u
        have e1 : g2 = s.gens := mv.gens
        have e2 : d2 = s.drawn := mv.drawn
        have e3 : os2 = s.os := mv.os
        subst e1 e2 e3
        rw [cnt] at g
        show wpAny _ _ _ _ _ _
        refine wpAny_pure ?_
        show wpAny _ _ (ret Value.none) _ _ _
        exact wpAny_pure ⟨rfl, h', tk, L, es, n, t, rfl, ⟨hR, g⟩, kp⟩
    · rcases r with er | fl
      · exact hr
      cases fl with
      | ret v =>
        obtain ⟨e1, h', tk, L, es, n, t, e2, ⟨hR, g⟩, kp⟩ := hr
        subst e1 e2
        repeat (any_goals (first | assumption | wp_step))
        exact hQ _ _ _ _ _ _ hR g kp
      | _ => exact hr.elim
  | _ => exact hr.elim
end
end Es
set_option Elab.async false
set_option linter.all false
set_option maxRecDepth 100000
set_option maxHeartbeats 4000000
namespace Es
open PySem PySem.Spec PyProof.Rows L2
mutual
theorem reads_key {h : Heap} : ∀ (k : NestedKey) (v : Value) (as : List Addr), Reads h v k.data as → NestedIs h k v ∧ as = []
  | .none, _, _, r => by cases r; exact ⟨.none, rfl⟩
  | .num i, _, _, r => by cases r; exact ⟨.int _ _, rfl⟩
  | .text y, _, _, r => by cases r; exact ⟨.text _ _, rfl⟩
  | .tup ks, _, _, r => by
    rw [NestedKey.data] at r
    cases r with
    | tuple h1 h2 h3 h4 =>
      obtain ⟨a, b⟩ := reads_keys ks _ _ h4
      exact ⟨.tup h1 h2 h3 a, b⟩
theorem reads_keys {h : Heap} : ∀ (ks : List NestedKey) (vs : List Value) (as : List Addr), ReadsAll h vs (NestedKey.datas ks) as → NestedAll h ks vs ∧ as = []
  | [], _, _, r => by cases r; exact ⟨.nil, rfl⟩
  | k :: ks, _, _, r => by
    rw [NestedKey.datas] at r
    cases r with
    | cons h1 h2 =>
      obtain ⟨a, b⟩ := reads_key k _ _ h1
      obtain ⟨c, d⟩ := reads_keys ks _ _ h2
      exact ⟨.cons a c, by rw [b, d]; rfl⟩
end
theorem perm_back {α β : Type} {f : α → β} {vs ws : List β} (h : vs.Perm ws) : ∀ {L : List α}, ws = L.map f → ∃ L1 : List α, L1.Perm L ∧ vs = L1.map f := by
  induction h with
  | nil =>
    intro L e
    have : L = [] := List.map_eq_nil_iff.mp e.symm
    exact ⟨[], by rw [this], rfl⟩
  | cons x p ih =>
    intro L e
    cases L with
    | nil => cases e
    | cons y L =>
      rw [List.map_cons] at e
      injection e with e1 e2
      obtain ⟨L1, p1, q1⟩ := ih e2
      exact ⟨y :: L1, p1.cons y, by rw [List.map_cons, e1, q1]⟩
  | swap x y l =>
    intro L e
    match L, e with
    | a :: b :: L, e =>
      rw [List.map_cons, List.map_cons] at e
      injection e with e1 e
      injection e with e2 e3
      exact ⟨b :: a :: L, List.Perm.swap a b L, by rw [List.map_cons, List.map_cons, e1, e2, e3]⟩
  | trans p q ih1 ih2 =>
    intro L e
    obtain ⟨L1, p1, q1⟩ := ih2 e
    obtain ⟨L2, p2, q2⟩ := ih1 q1
    exact ⟨L2, p2.trans p1, q2⟩
section
variable {P : Program} {w : World} {A : Around} {E : Value → Shared → Prop} {s : Shared} {S : Addr} {L : List (Addr × NestedKey)} {es : Array (Int × Value)} {n : Nat} {t : SetTable}
abbrev byData (L : List (Addr × NestedKey)) : List (Addr × NestedKey) := L.mergeSort (PySem.W.dataLe false fun e => e.2.data)
theorem sorted_keys (R : Stand (numKind P w) s.heap S L es n t) (hh : A.handled = none) (rd : ∀ e ∈ L, ∃ as, Reads s.heap (.ref e.1) e.2.data as) (al : PySem.W.AllAlike (L.map fun e => e.2.data)) (so : PySem.W.Sortable (L.map fun e => e.2.data))
    (hu : A.units + 50 < cLine) (dp : ∀ e ∈ L, e.2.data.depth ≤ 40) {Q : Value → Shared → Prop}
    (hQ : ∀ s' p (out : List Value) (c : Nat) L', (∀ b o, s.heap.get? b = some o → s'.heap.get? b = some o) → s'.gens = s.gens → s'.os = s.os → s.heap.objs.size ≤ p → s'.heap.get? p = some (seqObj "list" out.toArray c) →
      out = (byData L').map (fun e => Value.ref e.1) → L'.Perm L → Q (.ref p) s') :
    wpAny (model P w) A (call (.builtin "sorted") [.ref S]) Q E s := by
  obtain ⟨o, ho, hex, hd⟩ := R.obj
  have len := R.len
  have few := R.small
  refine Calls.call_function_entry kind_sorted plain_sorted entry_sorted (args_sorted1 _) ?_
  unfold Builtin.«sorted»
  refine wpAny_bind (m := checkCount "sorted" 1 1 _) (wpAny_pure ?_)
  refine wpAny_bind (collect_set (A := A.in1) hh ⟨o, ho, hex.1, hd⟩ R.fits (by unfold scanBound; omega) R.tab.ris R.ord fun s1 vs kp sz g1 o1 pm => ?_)
  rw [R.inn] at pm
  obtain ⟨L1, p1, rfl⟩ := perm_back (f := fun e : Addr × NestedKey => Value.ref e.1) pm (L := L) (by unfold ents; rw [List.map_map]; rfl)
  have few1 : L1.length < 64 := by rw [p1.length_eq]; exact few
  refine wpAny_bind (wpAny_newList ?_ (by rw [List.length_map, sizeLine_eq]; omega))
  have inn : (s1.heap.push (seqObj "list" (L1.map fun e => Value.ref e.1).toArray 0)).get? s1.heap.objs.size = some (seqObj "list" (L1.map fun e => Value.ref e.1).toArray 0) := Heap.get?_push_size _ rfl
  have each1 : ∀ L1 : List (Addr × NestedKey), PySem.W.EachIs (fun v (e : Addr × NestedKey) => v = Value.ref e.1) (L1.map fun e => Value.ref e.1) L1 := by
    intro L1
    induction L1 with
    | nil => exact .nil
    | cons e L1 ih => exact .cons rfl ih
  have each2 : ∀ L1 : List (Addr × NestedKey), (∀ e ∈ L1, e ∈ L) → PySem.W.EachIs (fun v (e : Addr × NestedKey) => ∃ as, Reads (s1.heap.push (seqObj "list" (L1.map fun e => Value.ref e.1).toArray 0)) v e.2.data as ∧ s1.heap.objs.size ∉ as) (L1.map fun e => Value.ref e.1) L1 := by
    intro L1 h
    generalize hN : seqObj "list" (L1.map fun e => Value.ref e.1).toArray 0 = N
    clear hN
    induction L1 with
    | nil => exact .nil
    | cons e L1 ih =>
      refine .cons ?_ (ih fun x hx => h x (List.mem_cons_of_mem _ hx))
      obtain ⟨as, r⟩ := rd e (h e List.mem_cons_self)
      have e0 := (reads_key _ _ _ r).2
      subst e0
      exact ⟨[], PyProof.Rows.Reads.keeps (fun b u z => Heap.get?_push_of_some _ (kp b u z)) r, by simp⟩
  have mem1 : ∀ e ∈ L1, e ∈ L := fun e he => p1.mem_iff.mp he
  have same : ∀ d, d ∈ (L1.map fun e => e.2.data) ↔ d ∈ (L.map fun e => e.2.data) := fun d => (p1.map _).mem_iff
  refine wpAny_bind (wpAny_holding (PySem.W.list_sort_data (s := { s1 with heap := s1.heap.push (seqObj "list" (L1.map fun e => Value.ref e.1).toArray 0) }) (enc := fun e => e.2.data) inn (each1 L1) (each2 L1 mem1) (fun d1 h1 d2 h2 => al d1 ((same d1).mp h1) d2 ((same d2).mp h2)) ?_ (by rw [sizeLine_eq]; omega)
    (fun e he => by have := dp e (mem1 e he); simp only [Around.in1_units]; omega) fun out ol oe => ?_))
  · rcases so with so | so
    · exact .inl fun d h => so d ((same d).mp h)
    · exact .inr fun d h => so d ((same d).mp h)
  · obtain ⟨c, hc⟩ := sortedHeap_at (vs := L1.map fun e => Value.ref e.1) (out := out.toArray) inn
    have eo : out = (byData L1).map fun e => Value.ref e.1 := by
      have : ∀ {xs : List Value} {ys : List (Addr × NestedKey)}, PySem.W.EachIs (fun v (e : Addr × NestedKey) => v = Value.ref e.1) xs ys → xs = ys.map fun e => Value.ref e.1 := by
        intro xs ys h
        induction h with
        | nil => rfl
        | cons h1 _ ih => rw [List.map_cons, h1, ih]
      exact this oe
    refine wpAny_pure ⟨_, rfl, hQ _ s1.heap.objs.size out c L1 (fun b u z => ?_) g1 o1 sz hc eo p1⟩
    have q := kp b u z
    have lt := Heap.lt_size q
    refine (sortedHeap_old (Nat.ne_of_lt lt) (by rw [size_push']; exact Nat.lt_succ_of_lt lt)).trans ?_
    exact Heap.get?_push_of_some _ q
end
structure Stand0 (P : Program) (w : World) (h : Heap) (S : Addr) (L : List (Addr × NestedKey)) : Prop where
  ex : ∃ o, h.get? S = some o
  full : ∃ es n t, ∀ h' : Heap, (∀ o, h.get? S = some o → h'.get? S = some o) → (∀ e ∈ L, (numKind P w).is h' e.2 e.1) → Stand (numKind P w) h' S L es n t
def KeySetO (P : Program) (w : World) (S : Addr) (L : List (Addr × NestedKey)) : HO := .ext fun h => Stand0 P w h S L
theorem Stand.light {P : Program} {w : World} {h : Heap} {S : Addr} {L : List (Addr × NestedKey)} {es : Array (Int × Value)} {n : Nat} {t : SetTable} (R : Stand (numKind P w) h S L es n t) : Stand0 P w h S L := by
  obtain ⟨o, ho, _⟩ := R.obj
  exact ⟨⟨o, ho⟩, es, n, t, fun h' k m => R.move k m⟩
theorem keySet_new {P : Program} {w : World} {H : Hp} {h : Heap} {S : Addr} {L : List (Addr × NestedKey)} (R : Stand0 P w h S L) : ObjOk P w H h S (KeySetO P w S L) := by
  refine ⟨R, R.ex, fun h1 h2 q k => ?_⟩
  obtain ⟨⟨o, ho⟩, es, n, t, f⟩ := q
  exact ⟨⟨o, k o ho⟩, es, n, t, fun h' k2 m => f h' (fun u hu => k2 u (k u hu)) m⟩
def KeyV (K : PySem.W.Frag) (H : Hp) (e : Addr × NestedKey) : Prop := Dp K H (.ref e.1) e.2.data ∧ e.2.depth ≤ 8 ∧ num e.2 = true
theorem KeyV.is {X : Cx} {pins : List (Addr × Obj)} {σ : L2.St} {H : Hp} {s : Shared} {e : Addr × NestedKey} (I : Inv X pins σ H s) (h : KeyV X.K H e) : (numKind X.prog X.w).is s.heap e.2 e.1 ∧ ∃ as, Reads s.heap (.ref e.1) e.2.data as := by
  obtain ⟨as, r⟩ := Dp.reads I _ _ (Value.ref e.1) h.1 (show RelV (.ref e.1) (.ref e.1) from rfl)
  exact ⟨⟨(reads_key _ _ _ r).1, h.2⟩, as, r⟩
def rKeySet (K : PySem.W.Frag) (P : Program) (w : World) : List V → Hp → VK → Prop := fun xs H Q => ∃ (a : Addr) (ks : List (Addr × NestedKey)), xs = [.ref a] ∧ SqT K H a (ks.map fun e => V.ref e.1) ∧ (∀ e ∈ ks, KeyV K H e) ∧ ks.length < 64 ∧
  ∀ S L, H S = none → (∀ e ∈ L, e ∈ ks) → (∀ e ∈ ks, e.2 ∈ L.map (·.2)) → (L.map (·.2)).Nodup → Q (.ref S) (upd H S (KeySetO P w S L))
def rSortedKeys (K : PySem.W.Frag) (P : Program) (w : World) : List V → Hp → VK → Prop := fun xs H Q => ∃ (a : Addr) (L : List (Addr × NestedKey)), xs = [.ref a] ∧ H a = some (KeySetO P w a L) ∧ (∀ e ∈ L, KeyV K H e) ∧
  PySem.W.AllAlike (L.map fun e => e.2.data) ∧ PySem.W.Sortable (L.map fun e => e.2.data) ∧ (∀ e ∈ L, e.2.data.depth ≤ 40) ∧
  ∀ L' p, L'.Perm L → H p = none → Q (.ref p) (upd H p (.lst ((byData L').map fun e => V.ref e.1)))
theorem vals_keys : ∀ {ks : List (Addr × NestedKey)} {us : List Value}, Vals (ks.map fun e => V.ref e.1) us → us = ks.map fun e => Value.ref e.1
  | [], _, .nil => rfl
  | e :: ks, _, .cons r t => by
    have r : _ = Value.ref e.1 := r
    rw [vals_keys t, r]
    rfl
theorem keys_vals : ∀ ks : List (Addr × NestedKey), Vals (ks.map fun e => V.ref e.1) (ks.map fun e => Value.ref e.1)
  | [] => .nil
  | _ :: ks => .cons rfl (keys_vals ks)
section
variable {X : Cx}
theorem cr_keySet (hc : X.calm = true) (hu : X.A.units + 64 < cLine) : CallR X (.type "set") (rKeySet X.K X.prog X.w) := by
  intro pins s σ H xs us Q I r h
  obtain ⟨a, ks, rfl, ht, hk, few, q⟩ := h
  rw [Vals.ref1 r]
  obtain ⟨its, rv, pl, _⟩ := I.tuple ht
  have new : H s.heap.objs.size = none := I.hok.fresh (Nat.le_refl _)
  refine set_of_tuple (G := numKind X.prog X.w) num_mute ks (I.ok.hd hc) pl (by simpa using vals_keys rv) (fun e he => (KeyV.is I (hk e he)).1) few (show _ + 8 < _ by simp only [Around.in1_units]; omega) fun h' tk L es n t R g kp => ?_
  refine ⟨.ref s.heap.objs.size, _, I.laid (t' := tk) kp (Nat.le_refl _) (keySet_new R.light), rfl, q _ L new (fun e he => List.mem_of_mem_take (g.from_ e he)) (fun e he => g.have_ e ?_) R.once⟩
  rw [List.take_length]
  exact he
theorem cr_sortedKeys (hc : X.calm = true) (hu : X.A.units + 64 < cLine) : CallR X (.builtin "sorted") (rSortedKeys X.K X.prog X.w) := by
  intro pins s σ H xs us Q I r h
  obtain ⟨a, L, rfl, ha, hk, al, so, dp, q⟩ := h
  have R0 : Stand0 X.prog X.w s.heap a L := (I.hok a _ ha).1
  obtain ⟨_, es, n, t, f⟩ := R0
  have R := f s.heap (fun _ z => z) fun e he => (KeyV.is I (hk e he)).1
  rw [Vals.ref1 r]
  refine sorted_keys R (I.ok.hd hc) (fun e he => (KeyV.is I (hk e he)).2) al so (by omega) dp fun s' p out c L' kp g o new at_ eo pm => ?_
  have few : L'.length < 64 := by rw [pm.length_eq]; exact R.small
  have hn : H p = none := I.hok.fresh new
  have J : Inv X pins σ (upd H p (.lst ((byData L').map fun e => V.ref e.1))) { s with heap := s'.heap, gens := s'.gens, drawn := s'.drawn, toks := s'.toks } :=
    I.call (ch := []) (Un.laid kp new hn) (I.hok.laid kp new ⟨by rw [List.length_map, List.length_mergeSort, sizeLine_eq]; omega, out, c, by rw [eo]; exact keys_vals _, at_⟩) (by rw [g]; exact I.bare) (fun _ z => nomatch z)
  have e : s' = { s with heap := s'.heap, gens := s'.gens, drawn := s'.drawn, toks := s'.toks } := by
    obtain ⟨h1, g1, d1, t1, o1⟩ := s'
    have o : o1 = s.os := o
    subst o
    rfl
  rw [e]
  exact ⟨.ref p, _, J, rfl, q L' p pm hn⟩
end
def lineK (l : Nat × Nat) : NestedKey := .tup [.tup ((bts l.1).map fun (u : Nat) => NestedKey.num (u : Int)), .num (l.2 : Int)]
theorem nums_data : ∀ ns : List Nat, NestedKey.datas (ns.map fun (u : Nat) => NestedKey.num (u : Int)) = (ns.map Int.ofNat).map .int
  | [] => rfl
  | n :: ns => by
    rw [List.map_cons, NestedKey.datas, nums_data ns]
    rfl
theorem nums_depth : ∀ ns : List Nat, NestedKey.depthAll (ns.map fun (u : Nat) => NestedKey.num (u : Int)) = 0
  | [] => rfl
  | n :: ns => by
    rw [List.map_cons, NestedKey.depthAll, nums_depth ns]
    rfl
theorem nums_num : ∀ ns : List Nat, nums (ns.map fun (u : Nat) => NestedKey.num (u : Int)) = true
  | [] => rfl
  | n :: ns => by
    rw [List.map_cons, nums, nums_num ns]
    rfl
theorem lineK_data (l : Nat × Nat) : (lineK l).data = lineD l := by
  unfold lineK lineD sumD
  rw [NestedKey.data, NestedKey.datas, NestedKey.datas, NestedKey.datas, NestedKey.data, NestedKey.data, nums_data]
theorem lineK_depth (l : Nat × Nat) : (lineK l).depth ≤ 8 := by
  unfold lineK
  rw [NestedKey.depth, NestedKey.depthAll, NestedKey.depthAll, NestedKey.depthAll, NestedKey.depth, NestedKey.depth, nums_depth]
  decide
theorem lineK_num (l : Nat × Nat) : num (lineK l) = true := by
  unfold lineK
  rw [num, nums, nums, nums, num, num, nums_num]
  rfl
theorem lineK_inj {l k : Nat × Nat} (hl : l.1 < 2 ^ 63) (hk : k.1 < 2 ^ 63) (e : lineK l = lineK k) : l = k := by
  have e := congrArg NestedKey.data e
  rw [lineK_data, lineK_data] at e
  unfold lineD sumD at e
  injection e with e
  injection e with e1 e
  injection e with e2 _
  injection e1 with e1
  injection e2 with e2
  refine Prod.ext ?_ (by omega)
  rw [List.map_map, List.map_map] at e1
  have e3 : bts l.1 = bts k.1 := by
    have inj : ∀ (a b : List Nat), a.map (PyData.int ∘ Int.ofNat) = b.map (PyData.int ∘ Int.ofNat) → a = b := by
      intro a
      induction a with
      | nil =>
        intro b h
        cases b with
        | nil => rfl
        | cons y b => cases h
      | cons x a ih =>
        intro b h
        cases b with
        | nil => cases h
        | cons y b =>
          rw [List.map_cons, List.map_cons] at h
          injection h with h1 h2
          have h1 : PyData.int (Int.ofNat x) = PyData.int (Int.ofNat y) := h1
          injection h1 with h1
          rw [Int.ofNat.inj h1, ih b h2]
    exact inj _ _ e1
  rw [← msk_bts hl, ← msk_bts hk, e3]
theorem lines_refs {K : PySem.W.Frag} {H : Hp} : ∀ {us : List V} {ls : List (Nat × Nat)}, Paired (LineV K H) us ls → ∃ cs : List (Addr × (Nat × Nat)), us = cs.map (fun c => V.ref c.1) ∧ ls = cs.map (·.2) ∧ ∀ c ∈ cs, LineV K H (.ref c.1) c.2
  | _, _, .nil => ⟨[], rfl, rfl, fun _ h => by cases h⟩
  | _, _, .cons h t => by
    obtain ⟨cs, rfl, rfl, hc⟩ := lines_refs t
    obtain ⟨a, r, rfl, h1, h2⟩ := h
    refine ⟨(a, _) :: cs, rfl, rfl, fun c m => ?_⟩
    rcases List.mem_cons.mp m with rfl | m
    · exact ⟨a, r, rfl, h1, h2⟩
    · exact hc c m
def keyed (c : Addr × (Nat × Nat)) : Addr × NestedKey := (c.1, lineK c.2)
theorem keyed_ok {K : PySem.W.Frag} {H : Hp} {c : Addr × (Nat × Nat)} (h : LineV K H (.ref c.1) c.2) : KeyV K H (keyed c) := by
  refine ⟨?_, lineK_depth _, lineK_num _⟩
  show Dp K H (.ref c.1) (lineK c.2).data
  rw [lineK_data]
  exact dp_line h
theorem keyed_back {cs : List (Addr × (Nat × Nat))} : ∀ L : List (Addr × NestedKey), (∀ e ∈ L, e ∈ cs.map keyed) → ∃ ds : List (Addr × (Nat × Nat)), L = ds.map keyed ∧ ∀ d ∈ ds, d ∈ cs
  | [], _ => ⟨[], rfl, fun _ h => by cases h⟩
  | e :: L, h => by
    obtain ⟨ds, rfl, hd⟩ := keyed_back L fun x hx => h x (List.mem_cons_of_mem _ hx)
    obtain ⟨c, hc, rfl⟩ := List.mem_map.mp (h e List.mem_cons_self)
    refine ⟨c :: ds, rfl, fun d m => ?_⟩
    rcases List.mem_cons.mp m with rfl | m
    · exact hc
    · exact hd d m
theorem keyed_facts {ds : List (Addr × (Nat × Nat))} : PySem.W.AllAlike ((ds.map keyed).map fun e => e.2.data) ∧ PySem.W.Sortable ((ds.map keyed).map fun e => e.2.data) ∧ ∀ e ∈ ds.map keyed, e.2.data.depth ≤ 40 := by
  have one : ∀ d ∈ (ds.map keyed).map (fun e => e.2.data), ∃ l, d = lineD l := fun d h => by
    obtain ⟨e, he, rfl⟩ := List.mem_map.mp h
    obtain ⟨c, _, rfl⟩ := List.mem_map.mp he
    exact ⟨c.2, lineK_data c.2⟩
  refine ⟨fun d1 h1 d2 h2 => ?_, .inl fun d h => ?_, fun e he => ?_⟩
  · obtain ⟨l, rfl⟩ := one d1 h1
    obtain ⟨k, rfl⟩ := one d2 h2
    exact alike_lineD l k
  · obtain ⟨l, rfl⟩ := one d h
    exact ⟨_, _, rfl⟩
  · obtain ⟨l, q⟩ := one _ (List.mem_map.mpr ⟨e, he, rfl⟩)
    rw [q, depth_lineD]
    decide
theorem canon_nodup {hs : List (Nat × Nat × Nat)} (F : FlatOk hs) : (canon hs).Nodup := by
  unfold canon
  refine List.Pairwise.map _ (fun a b h => h) ?_
  refine (List.pairwise_map.mp (srt_lt (hs.map (·.1)) |> fun k => by rw [← byHead_keys] at k; exact k)).imp_of_mem fun {a b} ha hb h => ?_
  intro z
  have la := F.least a ((byHead_perm F.red).mem_iff.mp ha)
  have lb := F.least b ((byHead_perm F.red).mem_iff.mp hb)
  rw [z, lb] at la
  have := Option.some.inj la
  omega
theorem clause_sorted {K : PySem.W.Frag} {H : Hp} {hs : List (Nat × Nat × Nat)} (F : FlatOk hs) {cs : List (Addr × (Nat × Nat))} (hc : canon hs = cs.map (·.2)) (hv : ∀ c ∈ cs, LineV K H (.ref c.1) c.2)
    {L L' : List (Addr × NestedKey)} (h1 : ∀ e ∈ L, e ∈ cs.map keyed) (h2 : ∀ e ∈ cs.map keyed, e.2 ∈ L.map (·.2)) (nd : (L.map (·.2)).Nodup) (p : L'.Perm L) : Paired (LineV K H) ((byData L').map fun e => V.ref e.1) (canon hs) := by
  obtain ⟨ds, rfl, hd⟩ := keyed_back L' fun e he => h1 e (p.mem_iff.mp he)
  have lt : ∀ c ∈ cs, c.2.1 < 2 ^ 63 := fun c hc' => (canon_lt F c.2 (by rw [hc]; exact List.mem_map.mpr ⟨c, hc', rfl⟩)).1
  have hv' : ∀ c ∈ ds.map (fun d => ((V.ref d.1, d.2) : V × (Nat × Nat))), LineV K H c.1 c.2 := fun c m => by
    obtain ⟨d, md, rfl⟩ := List.mem_map.mp m
    exact hv d (hd d md)
  have nd1 : (ds.map (·.2)).Nodup := by
    have q := (p.map (·.2)).nodup_iff.mpr nd
    rw [List.map_map] at q
    refine List.pairwise_map.mpr ((List.pairwise_map.mp q).imp fun {a b} h z => h ?_)
    show lineK a.2 = lineK b.2
    rw [z]
  have pm : (ds.map (·.2)).Perm (canon hs) := by
    refine (List.perm_ext_iff_of_nodup nd1 (canon_nodup F)).mpr fun l => ?_
    rw [hc]
    constructor
    · intro m
      obtain ⟨d, md, rfl⟩ := List.mem_map.mp m
      exact List.mem_map.mpr ⟨d, hd d md, rfl⟩
    · intro m
      obtain ⟨c, mc, rfl⟩ := List.mem_map.mp m
      have q := h2 (keyed c) (List.mem_map.mpr ⟨c, mc, rfl⟩)
      obtain ⟨e, me, z⟩ := List.mem_map.mp ((p.map (·.2)).mem_iff.mpr q)
      obtain ⟨d, md, rfl⟩ := List.mem_map.mp me
      have z : lineK d.2 = lineK c.2 := z
      have z := lineK_inj (lt d (hd d md)) (lt c mc) z
      exact List.mem_map.mpr ⟨d, md, z⟩
  have pm2 : ((ds.map fun d => ((V.ref d.1, d.2) : V × (Nat × Nat))).map (·.2)).Perm (hs.map (·.2)) := by
    rw [List.map_map]
    refine pm.trans ?_
    unfold canon
    exact (byHead_perm F.red).map (·.2)
  have r := sorted_lines F hv' pm2
  have e1 : (ds.map fun d => ((V.ref d.1, d.2) : V × (Nat × Nat))).map (fun c => ((c.1, lineD c.2) : V × PyData)) = (ds.map keyed).map fun e => ((V.ref e.1, e.2.data) : V × PyData) := by
    rw [List.map_map, List.map_map]
    refine List.map_congr_left fun d _ => ?_
    show (V.ref d.1, lineD d.2) = (V.ref d.1, (lineK d.2).data)
    rw [lineK_data]
  rw [e1, ← List.map_mergeSort (r := PySem.W.dataLe false fun e : Addr × NestedKey => e.2.data) (f := fun e : Addr × NestedKey => ((V.ref e.1, e.2.data) : V × PyData)) (fun _ _ _ _ => rfl), List.map_map] at r
  exact r
theorem nice_lines {ls : List (Nat × Nat)} (h : ∀ l ∈ ls, l.2 < 2) : nice (.list (ls.map lineD)) = true := niceAll_iff.mpr fun x hx => by
  obtain ⟨l, hl, rfl⟩ := List.mem_map.mp hx
  exact nice_line (h l hl)
theorem shaped_lines {ls : List (Nat × Nat)} (h : ∀ l ∈ ls, l.2 < 2) : SeqAt.shaped (.list (ls.map lineD)) = true ∧ PyData.eqv (.list (ls.map lineD)) (.list (ls.map lineD)) = true := by
  refine ⟨nice_shaped (nice_lines h) ?_, SeqAt.eqv_refl _ (nice_facts _ (nice_lines h)).1⟩
  rw [PyData.depth]
  have := depth_lines ls
  omega
end Es
set_option Elab.async false
set_option linter.all false
set_option maxRecDepth 100000
set_option maxHeartbeats 4000000
namespace Es
open PySem PySem.Spec PyProof.Rows L2
def sp_holds (K : PySem.W.Frag) : Sp := fun vs H Q _ => ∃ (v : V) (b : Addr) (l : Nat × Nat) (bs : List Nat), vs = [v, .ref b] ∧ LineV K H v l ∧ SqT K H b (iv bs) ∧ (∀ u ∈ bts l.1, u < bs.length) ∧
  ∀ H', Same H H' → Q (.bl (decide (wsum l.1 bs % 2 = l.2))) H'
def sp_is_in (K : PySem.W.Frag) : Sp := fun vs H Q _ => ∃ (t b : Addr) (us : List V) (ls : List (Nat × Nat)) (bs : List Nat), vs = [.ref t, .ref b] ∧ SqT K H t us ∧ Paired (LineV K H) us ls ∧ SqT K H b (iv bs) ∧ (∀ l ∈ ls, ∀ u ∈ bts l.1, u < bs.length) ∧
  ∀ H', Same H H' → Q (.bl (ls.all fun l => decide (wsum l.1 bs % 2 = l.2))) H'
def liesB (hs : List (Nat × Nat × Nat)) (ls : List (Nat × Nat)) : Bool := ls.all fun l => decide ((wh hs (l.1, 0)).1 = 0) && decide ((wh hs (l.1, 0)).2 = l.2)
def sp_lies_in (K : PySem.W.Frag) : Sp := fun vs H Q _ => ∃ (v : V) (t : Addr) (us : List V) (hs : List (Nat × Nat × Nat)) (ls : List (Nat × Nat)), vs = [v, .ref t] ∧ FlatV K H v hs ∧ FlatOk hs ∧ SqT K H t us ∧ Paired (LineV K H) us ls ∧ (∀ l ∈ ls, l.1 < 2 ^ 63 ∧ l.2 < 2) ∧
  ∀ H', Same H H' → Q (.bl (liesB hs ls)) H'
def sp_meet (K : PySem.W.Frag) : Sp := fun vs H Q _ => ∃ (v u : V) (hs gs : List (Nat × Nat × Nat)), vs = [v, u] ∧ FlatV K H v hs ∧ FlatOk hs ∧ FlatV K H u gs ∧ FlatOk gs ∧
  ∀ H' w, Same H H' → OptFlat K H' w (lflat (canon hs ++ canon gs)) → Q w H'
def sp_bits_many (K : PySem.W.Frag) : Sp := fun vs H Q _ => ∃ (n : Nat) (v : V) (hs : List (Nat × Nat × Nat)), vs = [.int (n : Int), v] ∧ FlatV K H v hs ∧ FlatOk hs ∧ hs.length ≤ n ∧ n ≤ 62 ∧ Q (.int ((2 ^ (n - hs.length) : Nat) : Int)) H
def bitsS (n s : Nat) : List Nat := (List.range n).map fun u => if s.testBit (n - 1 - u) = true then 1 else 0
def sp_law_bits (K : PySem.W.Frag) : Sp := fun vs H Q _ => ∃ (v : V) (n s : Nat), vs = [v, .int (s : Int)] ∧ RoomV K H v n ∧ n ≤ 7 ∧
  ∀ H' t, Same H H' → H t = none → SqT K H' t (iv (bitsS n s)) → Q (.ref t) H'
def sp_law_place (K : PySem.W.Frag) : Sp := fun vs H Q _ => ∃ (b : Addr) (bs : List Nat), vs = [.ref b] ∧ SqT K H b (iv bs) ∧ bs.length ≤ 12 ∧ (∀ x ∈ bs, x < 2) ∧
  Q (.int ((bs.foldl (fun x b => 2 * x + b) 0 : Nat) : Int)) H
def sp_law_wider (K : PySem.W.Frag) : Sp := fun vs H Q _ => ∃ (b c : Addr) (v : V) (hs : List (Nat × Nat × Nat)), vs = [.ref b, v] ∧ BagAt K H b c ∧ FlatV K H v hs ∧ FlatOk hs ∧
  ∀ H' w gs, But b H H' → BagAt K H' b c → FlatV K H' w gs → FlatOk gs → (∀ e ∈ gs, e ∈ hs) → Q w H'
theorem paired_append {α β : Type} {R : α → β → Prop} : ∀ {xs : List α} {ys : List β} {zs : List α} {ws : List β}, PySem.Paired R xs ys → PySem.Paired R zs ws → PySem.Paired R (xs ++ zs) (ys ++ ws)
  | _, _, _, _, .nil, k => k
  | _, _, _, _, .cons h t, k => .cons h (paired_append t k)
theorem bitsS_len (n s : Nat) : (bitsS n s).length = n := by simp [bitsS]
theorem flat_len {hs : List (Nat × Nat × Nat)} (F : FlatOk hs) : (canon hs).length = hs.length := by
  unfold canon
  rw [List.length_map]
  exact (byHead_perm F.red).length_eq
theorem part_flat {hs gs : List (Nat × Nat × Nat)} (F : FlatOk hs) (h : gs.Sublist (byHead hs)) : FlatOk gs ∧ canon gs = gs.map (·.2) ∧ ∀ e ∈ gs, e ∈ hs := by
  have mem : ∀ e ∈ gs, e ∈ hs := fun e he => (byHead_perm F.red).mem_iff.mp (h.subset he)
  have ks := srt_lt (hs.map (·.1))
  rw [← byHead_keys] at ks
  have kg : (gs.map (·.1)).Pairwise (· < ·) := ks.sublist (h.map _)
  have R : RedOk gs := ⟨kg.imp fun z => Nat.ne_of_lt z, fun e he => F.red.own e (mem e he), fun e he x hx n => by
    obtain ⟨g, hg, rfl⟩ := List.mem_map.mp hx
    exact F.red.oth e (mem e he) g.1 (List.mem_map.mpr ⟨g, mem g hg, rfl⟩) n⟩
  refine ⟨⟨R, fun e he => F.least e (mem e he), fun e he => F.bit e (mem e he)⟩, ?_, mem⟩
  unfold canon
  have e : byHead gs = gs := by
    refine List.Perm.eq_of_pairwise (le := fun a b : Nat × Nat × Nat => a.1 < b.1) ?_ ?_ ?_ (byHead_perm R)
    · intro a b _ _ h1 h2
      omega
    · have k2 := srt_lt (gs.map (·.1))
      rw [← byHead_keys, List.pairwise_map] at k2
      exact k2
    · rw [List.pairwise_map] at kg
      exact kg
  rw [e]
theorem least_bit {x : Nat} (h : x ≠ 0) : ∃ l, x.testBit l = true ∧ ∀ j, j < l → x.testBit j = false := by
  obtain ⟨k, hk⟩ := Nat.exists_testBit_of_ne_zero h
  induction k using Nat.strongRecOn with
  | ind k ih =>
    by_cases z : ∃ j, j < k ∧ x.testBit j = true
    · obtain ⟨j, hj, e⟩ := z
      exact ih j hj e
    · refine ⟨k, hk, fun j hj => ?_⟩
      cases q : x.testBit j with
      | false => rfl
      | true => exact absurd ⟨j, hj, q⟩ z
theorem and_pred {x l : Nat} (h2 : x.testBit l = true) (h3 : ∀ j, j < l → x.testBit j = false) (j : Nat) : (x &&& (x - 1)).testBit j = (x.testBit j && decide (j ≠ l)) := by
  have z : x % 2 ^ l = 0 := by
    refine Nat.eq_of_testBit_eq fun j => ?_
    rw [Nat.testBit_mod_two_pow, Nat.zero_testBit]
    by_cases hj : j < l
    · rw [h3 j hj, Bool.and_false]
    · rw [decide_eq_false hj, Bool.false_and]
  have o : x / 2 ^ l % 2 = 1 := by
    have := h2
    rw [Nat.testBit_eq_decide_div_mod_eq] at this
    exact of_decide_eq_true this
  have p0 : 0 < 2 ^ l := Nat.two_pow_pos l
  obtain ⟨q, hq⟩ : ∃ q, x / 2 ^ l = 2 * q + 1 := ⟨x / 2 ^ l / 2, by omega⟩
  have ex : x = 2 ^ l * (2 * q + 1) := by
    have := Nat.div_add_mod x (2 ^ l)
    rw [z, hq] at this
    omega
  have e0 : x - 1 = 2 ^ l * (2 * q) + (2 ^ l - 1) := by
    rw [ex, Nat.mul_add, Nat.mul_one]
    omega
  have d1 : (x - 1) / 2 ^ l = 2 * q := by
    rw [e0, Nat.mul_add_div p0, Nat.div_eq_of_lt (by omega), Nat.add_zero]
  rw [Nat.testBit_and]
  rcases Nat.lt_trichotomy j l with hj | rfl | hj
  · rw [h3 j hj]
    rfl
  · have : (x - 1).testBit j = false := by
      rw [Nat.testBit_eq_decide_div_mod_eq, d1]
      exact decide_eq_false (by omega)
    rw [this, Bool.and_false, decide_eq_false (fun h => h rfl), Bool.and_false]
  · obtain ⟨i, rfl⟩ : ∃ i, j = l + 1 + i := ⟨j - (l + 1), by omega⟩
    have t1 : x.testBit (l + 1 + i) = q.testBit i := by
      rw [Nat.add_comm (l + 1) i, ← Nat.testBit_div_two_pow]
      congr 1
      rw [Nat.pow_succ, ← Nat.div_div_eq_div_mul, hq]
      omega
    have t2 : (x - 1).testBit (l + 1 + i) = q.testBit i := by
      rw [Nat.add_comm (l + 1) i, ← Nat.testBit_div_two_pow]
      congr 1
      rw [Nat.pow_succ, ← Nat.div_div_eq_div_mul, d1]
      omega
    rw [t1, t2, Bool.and_self, decide_eq_true (by omega), Bool.and_true]
def BitsV (K : PySem.W.Frag) (n : Nat) (H : Hp) (v : V) (s : Nat) : Prop := ∃ t, v = .ref t ∧ SqT K H t (iv (bitsS n s))
theorem BitsV.same {K : PySem.W.Frag} {n : Nat} {H H' : Hp} {v : V} {s : Nat} (sm : Same H H') (h : BitsV K n H v s) : BitsV K n H' v s := by
  obtain ⟨t, rfl, h⟩ := h
  exact ⟨t, rfl, sqT_same sm h⟩
theorem BitsV.but {K : PySem.W.Frag} {n : Nat} {H H' : Hp} {b : Addr} {ys : List V} {v : V} {s : Nat} (hb : H b = some (.lst ys)) (sm : But b H H') (h : BitsV K n H v s) : BitsV K n H' v s := by
  obtain ⟨t, rfl, h⟩ := h
  exact ⟨t, rfl, sqT_but hb sm h⟩
def sp_law_least (K : PySem.W.Frag) : Sp := fun vs H Q _ => ∃ (v : V) (n x : Nat), vs = [v, .int (x : Int)] ∧ RoomV K H v n ∧ n ≤ 7 ∧ (x = 0 → Q .non H) ∧
  (∀ s, x.testBit s = true → (∀ j, j < s → x.testBit j = false) → ∀ H' u, Same H H' → BitsV K n H' u s → Q u H')
def sp_law_listed (K : PySem.W.Frag) : Sp := fun vs H Q _ => ∃ (v : V) (n x : Nat), vs = [v, .int (x : Int)] ∧ RoomV K H v n ∧ n ≤ 7 ∧ x < 2 ^ 2 ^ n ∧
  ∀ H' p us, Same H H' → H p = none → H' p = some (.lst us) → Paired (BitsV K n H') us ((List.range (2 ^ n)).filter fun s => x.testBit s) → Q (.ref p) H'
theorem holds_flip {m b : Nat} {f : Nat → Bool} (hb : b < 2) : holdsL (m, 1 - b) f ↔ ¬ holdsL (m, b) f := by
  unfold holdsL
  have h : b = 0 ∨ b = 1 := by omega
  rcases h with rfl | rfl <;> cases par m f <;> simp
theorem lies_iff {hs gs : List (Nat × Nat × Nat)} (F : FlatOk hs) (FG : FlatOk gs) : liesB hs (canon gs) = true ↔ ∀ f, sol hs f → sol gs f := by
  unfold liesB
  rw [List.all_eq_true]
  constructor
  · intro h f s
    refine (all_canon FG f).mp (List.all_eq_true.mpr fun l hl => holdsB_iff.mpr ?_)
    have l2 := (canon_lt FG l hl).2
    have h1 := h l hl
    rw [Bool.and_eq_true, decide_eq_true_eq, decide_eq_true_eq] at h1
    obtain ⟨w1, w2⟩ := wh_row hs l.1 0 l.2
    have z : (wh hs (l.1, l.2)).1 = 0 := by rw [← w1]; exact h1.1
    refine (flat_told F (l := (l.1, l.2)) l2 z s).mpr ?_
    rw [h1.2, Nat.xor_self, Nat.xor_zero] at w2
    exact w2.symm
  · intro h l hl
    obtain ⟨l63, l2⟩ := canon_lt FG l hl
    have on : ∀ f, sol hs f → holdsL l f := fun f s => holdsB_iff.mp (List.all_eq_true.mp ((all_canon FG f).mpr (h f s)) l hl)
    rw [Bool.and_eq_true, decide_eq_true_eq, decide_eq_true_eq]
    have z : (wh hs (l.1, 0)).1 = 0 := by
      refine Classical.byContradiction fun nz => ?_
      obtain ⟨f, s1, s2⟩ := flat_free F (l := (l.1, 1 - l.2)) l63 (by show 1 - l.2 < 2; omega) (by rw [← (wh_row hs l.1 0 (1 - l.2)).1]; exact nz)
      exact (holds_flip l2).mp s2 (on f s1)
    refine ⟨z, ?_⟩
    obtain ⟨f, s⟩ := flat_has F
    obtain ⟨w1, w2⟩ := wh_row hs l.1 0 l.2
    have z2 : (wh hs (l.1, l.2)).1 = 0 := by rw [← w1]; exact z
    have h0 := (flat_told F (l := (l.1, l.2)) l2 z2 s).mp (on f s)
    rw [h0, Nat.xor_zero] at w2
    have r2 := wh_bit F.bit (l.1, 0) (by show 0 < 2; decide)
    have h1 : (wh hs (l.1, 0)).2 = 0 ∨ (wh hs (l.1, 0)).2 = 1 := by omega
    have h2 : l.2 = 0 ∨ l.2 = 1 := by omega
    rcases h1 with h1 | h1 <;> rcases h2 with h2 | h2 <;> rw [h1, h2] at w2 ⊢ <;> first | rfl | exact absurd w2 (by decide)
theorem meet_sol {hs gs : List (Nat × Nat × Nat)} (F : FlatOk hs) (FG : FlatOk gs) (f : Nat → Bool) : (∀ l ∈ canon hs ++ canon gs, holdsL l f) ↔ sol hs f ∧ sol gs f := by
  rw [← all_canon F f, ← all_canon FG f, List.all_eq_true, List.all_eq_true]
  constructor
  · exact fun h => ⟨fun l hl => holdsB_iff.mpr (h l (List.mem_append_left _ hl)), fun l hl => holdsB_iff.mpr (h l (List.mem_append_right _ hl))⟩
  · rintro ⟨h1, h2⟩ l hl
    rcases List.mem_append.mp hl with hl | hl
    · exact holdsB_iff.mp (h1 l hl)
    · exact holdsB_iff.mp (h2 l hl)
theorem meet_lt {hs gs : List (Nat × Nat × Nat)} (F : FlatOk hs) (FG : FlatOk gs) : ∀ l ∈ canon hs ++ canon gs, l.1 < 2 ^ 63 ∧ l.2 < 2 := fun l hl => by
  rcases List.mem_append.mp hl with hl | hl
  · exact canon_lt F l hl
  · exact canon_lt FG l hl
theorem within_iff {hs gs : List (Nat × Nat × Nat)} (F : FlatOk hs) (FG : FlatOk gs) {n x y : Nat} (lh : ∀ e ∈ hs, e.2.1 < 2 ^ n) (lg : ∀ e ∈ gs, e.2.1 < 2 ^ n)
    (hx : BitsOf (2 ^ n) x (fun s => (canon hs).all fun l => holdsB l (fS n s))) (hy : BitsOf (2 ^ n) y (fun s => (canon gs).all fun l => holdsB l (fS n s))) : x &&& y = x ↔ liesB hs (canon gs) = true := by
  rw [lies_iff F FG]
  constructor
  · intro e f s
    obtain ⟨k, k1, k2⟩ := holds_num (n := n) f
    have h1 : sol hs (fS n k) := fun e he => (k2 e.2 (lh e he)).mpr (s e he)
    have h2 := hx.2 k k1
    have h3 : x.testBit k = true := h2.trans ((all_canon F _).mpr h1)
    rw [← e, Nat.testBit_and, Bool.and_eq_true] at h3
    have h4 := (all_canon FG (fS n k)).mp ((hy.2 k k1).symm.trans h3.2)
    exact fun e he => (k2 e.2 (lg e he)).mp (h4 e he)
  · intro h
    refine (hx.and hy).uniq (hx.congr fun s _ => ?_)
    rw [Bool.eq_iff_iff, Bool.and_eq_true, all_canon F, all_canon FG]
    exact ⟨fun z => ⟨z, h _ z⟩, fun z => z.1⟩
def sp_law_are_two_right (K : PySem.W.Frag) : Sp := fun vs H Q _ => ∃ (v w u : V) (n : Nat) (hs gs : List (Nat × Nat × Nat)), vs = [v, w, u] ∧ RoomV K H v n ∧ n ≤ 7 ∧ FlatV K H w hs ∧ FlatOk hs ∧ (∀ e ∈ hs, e.2.1 < 2 ^ n) ∧ FlatV K H u gs ∧ FlatOk gs ∧ (∀ e ∈ gs, e.2.1 < 2 ^ n) ∧
  ∀ H', Same H H' → Q (.bl true) H'
end Es
set_option Elab.async false
set_option linter.all false
set_option maxRecDepth 100000
set_option maxHeartbeats 4000000
namespace Es
open PySem PySem.Spec PyProof.Rows L2
theorem par_low {m u : Nat} (hm : m < 2 ^ 63) (hl : low m = some u) (f : Nat → Bool) : par m f = (f u ^^ par (m >>> (u + 1)) (fun i => f (u + 1 + i))) := by
  obtain ⟨u63, bu, below⟩ := low_iff.mp hl
  have e : bts m = u :: (bts (m >>> (u + 1))).map fun i => u + 1 + i := by
    refine (bts_of ?_ fun v => ?_).symm
    · refine List.pairwise_cons.mpr ⟨fun v hv => ?_, ?_⟩
      · obtain ⟨i, _, rfl⟩ := List.mem_map.mp hv
        show u < u + 1 + i
        omega
      · exact List.pairwise_map.mpr ((bts_lt _).imp fun {a b} h => by omega)
    · rw [List.mem_cons, List.mem_map]
      constructor
      · rintro (rfl | ⟨i, hi, rfl⟩)
        · exact ⟨u63, bu⟩
        · have := (mem_bts.mp hi).2
          rw [Nat.testBit_shiftRight] at this
          refine ⟨?_, this⟩
          refine Nat.lt_of_not_le fun z => ?_
          rw [bit_ge hm z] at this
          cases this
      · rintro ⟨v63, bv⟩
        by_cases z : v = u
        · exact .inl z
        · refine .inr ⟨v - (u + 1), ?_, ?_⟩
          · have : u < v := by
              refine Nat.lt_of_le_of_ne (Nat.le_of_not_lt fun y => ?_) (Ne.symm z)
              rw [below v y] at bv
              cases bv
            refine mem_bts.mpr ⟨by omega, ?_⟩
            rw [Nat.testBit_shiftRight, show u + 1 + (v - (u + 1)) = v by omega]
            exact bv
          · have : ¬ v < u := fun y => by
              rw [below v y] at bv
              cases bv
            omega
  rw [par_bts, par_bts, e, List.foldl_cons, List.foldl_map, Bool.false_xor]
  have go : ∀ (L : List Nat) (b c : Bool), L.foldl (fun b i => b ^^ f (u + 1 + i)) (b ^^ c) = (b ^^ L.foldl (fun b i => b ^^ f (u + 1 + i)) c) := by
    intro L
    induction L with
    | nil => intro b c; rfl
    | cons i L ih =>
      intro b c
      rw [List.foldl_cons, List.foldl_cons, ← ih, Bool.xor_assoc]
  have h := go (bts (m >>> (u + 1))) (f u) false
  rw [Bool.xor_false] at h
  exact h
def G8 (m s : Nat) : Nat → Bool := fun i => decide (i < m) && s.testBit (m - 1 - i)
theorem fS_G8 {n u s : Nat} (hu : u < n) (i : Nat) : fS n s (u + 1 + i) = G8 (n - 1 - u) s i := by
  unfold fS G8
  have e : n - 1 - (u + 1 + i) = n - 1 - u - 1 - i := by omega
  rw [e]
  congr 1
  rw [decide_eq_decide]
  omega
def aheadB (n : Nat) (p : Nat × Nat) (u s : Nat) : Bool := decide (p.2 = 1) ^^ par (p.1 >>> (u + 1)) (G8 (n - 1 - u) s)
def topN (m : Nat) (b : Bool) : Nat := if b = true then 2 ^ m else 0
theorem top_bit {m s : Nat} (hs : s < 2 ^ m) (b : Bool) (j : Nat) : (topN m b + s).testBit j = if j = m then b else s.testBit j := by
  unfold topN
  cases b with
  | false =>
    rw [if_neg Bool.false_ne_true, Nat.zero_add]
    by_cases z : j = m
    · rw [if_pos z, z, Nat.testBit_lt_two_pow hs]
    · rw [if_neg z]
  | true =>
    rw [if_pos rfl]
    by_cases z : j = m
    · rw [if_pos z, z, Nat.testBit_two_pow_add_eq, Nat.testBit_lt_two_pow hs]
      rfl
    · rw [if_neg z]
      rcases Nat.lt_or_ge j m with y | y
      · exact Nat.testBit_two_pow_add_gt y s
      · rw [Nat.testBit_lt_two_pow (show 2 ^ m + s < 2 ^ j from Nat.lt_of_lt_of_le (show 2 ^ m + s < 2 ^ (m + 1) by rw [Nat.pow_succ]; omega) (Nat.pow_le_pow_right (by decide) (by omega))),
          Nat.testBit_lt_two_pow (Nat.lt_of_lt_of_le hs (Nat.pow_le_pow_right (by decide) y))]
theorem top_lt {m s : Nat} (hs : s < 2 ^ m) (b : Bool) : topN m b + s < 2 ^ (m + 1) := by
  unfold topN
  rw [Nat.pow_succ]
  split <;> omega
theorem fS_top {n u s : Nat} (hu : u < n) (hs : s < 2 ^ (n - 1 - u)) (b : Bool) (v : Nat) : fS n (topN (n - 1 - u) b + s) v = if v = u then b else fS n s v := by
  unfold fS
  rw [top_bit hs]
  by_cases z : v = u
  · subst z
    rw [if_pos rfl, if_pos rfl, decide_eq_true hu, Bool.true_and]
  · rw [if_neg z]
    by_cases y : v < n
    · rw [if_neg (by omega)]
    · rw [decide_eq_false y, Bool.false_and, Bool.false_and]
theorem par_above {m a : Nat} (hm : m < 2 ^ 63) (ha : low m = some a) {f g : Nat → Bool} (h : ∀ v, a ≤ v → f v = g v) : par m f = par m g := by
  rw [par_low hm ha, par_low hm ha, h a (Nat.le_refl _)]
  congr 2
  funext i
  exact h _ (by omega)
def Ss (n : Nat) (hs : List (Nat × Nat × Nat)) : Nat → List Nat
  | 0 => [0]
  | m + 1 => match look hs (n - 1 - m) with
    | some p => (Ss n hs m).map fun s => topN m (aheadB n p (n - 1 - m) s) + s
    | none => (Ss n hs m).flatMap fun s => [topN m false + s, topN m true + s]
theorem Ss_mem {n : Nat} {hs : List (Nat × Nat × Nat)} (F : FlatOk hs) (hlt : ∀ e ∈ hs, e.2.1 < 2 ^ n) : ∀ m, m ≤ n → ∀ s, s ∈ Ss n hs m ↔ s < 2 ^ m ∧ ∀ e ∈ hs, n - m ≤ e.1 → holdsL e.2 (fS n s)
  | 0, _, s => by
    rw [Ss, List.mem_singleton]
    constructor
    · rintro rfl
      refine ⟨by decide, fun e he h => ?_⟩
      have bt := (low_iff.mp (F.least e he)).2.1
      have := hlt e he
      rw [Nat.testBit_lt_two_pow (Nat.lt_of_lt_of_le this (Nat.pow_le_pow_right (by decide) (show n ≤ e.1 by omega)))] at bt
      cases bt
    · intro h
      omega
  | m + 1, hm, s => by
    have ih := Ss_mem F hlt m (by omega)
    have hu : n - 1 - m < n := by omega
    have em : n - 1 - (n - 1 - m) = m := by omega
    have cutS : ∀ s, s < 2 ^ (m + 1) → ∃ b t, t < 2 ^ m ∧ s = topN m b + t := fun s hs' => by
      by_cases z : 2 ^ m ≤ s
      · exact ⟨true, s - 2 ^ m, by rw [Nat.pow_succ] at hs'; omega, by unfold topN; rw [if_pos rfl]; omega⟩
      · exact ⟨false, s, by omega, by unfold topN; rw [if_neg Bool.false_ne_true]; omega⟩
    have above : ∀ e ∈ hs, n - 1 - m < e.1 → ∀ b t, t < 2 ^ m → (holdsL e.2 (fS n (topN m b + t)) ↔ holdsL e.2 (fS n t)) := fun e he h b t ht => by
      unfold holdsL
      rw [par_above (F.red.own e he).2.1 (F.least e he) (f := fS n (topN m b + t)) (g := fS n t) fun v hv => ?_]
      have q := fS_top (n := n) hu (s := t) (by rw [em]; exact ht) b v
      rw [em] at q
      rw [q, if_neg (by omega)]
    rw [Ss]
    cases q : look hs (n - 1 - m) with
    | some p =>
      dsimp only
      have he0 : (n - 1 - m, p) ∈ hs := look_mem q
      have at0 : ∀ b t, t < 2 ^ m → (holdsL p (fS n (topN m b + t)) ↔ b = aheadB n p (n - 1 - m) t) := fun b t ht => by
        unfold holdsL aheadB
        have h1 := fS_top (n := n) hu (s := t) (by rw [em]; exact ht) b
        rw [em] at h1
        rw [par_low (F.red.own _ he0).2.1 (F.least _ he0)]
        show (fS n (topN m b + t) (n - 1 - m) ^^ par (p.1 >>> (n - 1 - m + 1)) fun i => fS n (topN m b + t) (n - 1 - m + 1 + i)) = _ ↔ _
        have e2 : (fun i => fS n (topN m b + t) (n - 1 - m + 1 + i)) = G8 (n - 1 - (n - 1 - m)) t := by
          funext i
          rw [h1, if_neg (by omega), fS_G8 hu]
        rw [h1, if_pos rfl, e2]
        generalize par (p.1 >>> (n - 1 - m + 1)) (G8 (n - 1 - (n - 1 - m)) t) = z
        cases b <;> cases z <;> cases decide (p.2 = 1) <;> simp
      rw [List.mem_map]
      constructor
      · rintro ⟨t, ht, rfl⟩
        obtain ⟨t1, t2⟩ := (ih t).mp ht
        refine ⟨top_lt t1 _, fun e he h => ?_⟩
        by_cases z : e.1 = n - 1 - m
        · have : e = (n - 1 - m, p) := by
            have := look_of F.red.nd he
            rw [z, q] at this
            exact Prod.ext z (Option.some.inj this).symm
          rw [this]
          exact (at0 _ t t1).mpr rfl
        · exact (above e he (by omega) _ t t1).mpr (t2 e he (by omega))
      · rintro ⟨h1, h2⟩
        obtain ⟨b, t, ht, rfl⟩ := cutS s h1
        refine ⟨t, (ih t).mpr ⟨ht, fun e he h => (above e he (by omega) b t ht).mp (h2 e he (by omega))⟩, ?_⟩
        have hb := (at0 b t ht).mp (h2 (n - 1 - m, p) he0 (show n - (m + 1) ≤ n - 1 - m by omega))
        exact congrArg (fun c => topN m c + t) hb.symm
    | none =>
      dsimp only
      have no := look_none.mp q
      have ne : ∀ e ∈ hs, e.1 ≠ n - 1 - m := fun e he z => no (List.mem_map.mpr ⟨e, he, z⟩)
      rw [List.mem_flatMap]
      constructor
      · rintro ⟨t, ht, h⟩
        obtain ⟨t1, t2⟩ := (ih t).mp ht
        obtain ⟨b, rfl⟩ : ∃ b, s = topN m b + t := by
          rcases List.mem_cons.mp h with h | h
          · exact ⟨false, h⟩
          · exact ⟨true, List.mem_singleton.mp h⟩
        exact ⟨top_lt t1 _, fun e he h => (above e he (by have := ne e he; omega) b t t1).mpr (t2 e he (by have := ne e he; omega))⟩
      · rintro ⟨h1, h2⟩
        obtain ⟨b, t, ht, rfl⟩ := cutS s h1
        refine ⟨t, (ih t).mpr ⟨ht, fun e he h => (above e he (by have := ne e he; omega) b t ht).mp (h2 e he (by omega))⟩, ?_⟩
        cases b
        · exact List.mem_cons_self
        · exact List.mem_cons_of_mem _ List.mem_cons_self
theorem top_inj {m s t : Nat} (hs : s < 2 ^ m) (ht : t < 2 ^ m) {b c : Bool} (e : topN m b + s = topN m c + t) : b = c ∧ s = t := by
  unfold topN at e
  cases b <;> cases c <;> simp at e <;> first | exact ⟨rfl, by omega⟩ | (exfalso; omega)
theorem Ss_nodup {n : Nat} {hs : List (Nat × Nat × Nat)} (F : FlatOk hs) (hlt : ∀ e ∈ hs, e.2.1 < 2 ^ n) : ∀ m, m ≤ n → (Ss n hs m).Nodup
  | 0, _ => by rw [Ss]; exact List.pairwise_singleton _ _
  | m + 1, hm => by
    have ih := Ss_nodup F hlt m (by omega)
    have lt : ∀ s ∈ Ss n hs m, s < 2 ^ m := fun s h => ((Ss_mem F hlt m (by omega) s).mp h).1
    rw [Ss]
    cases q : look hs (n - 1 - m) with
    | some p =>
      dsimp only
      exact List.pairwise_map.mpr (ih.imp_of_mem fun {a b} ha hb ne e => ne (top_inj (lt a ha) (lt b hb) e).2)
    | none =>
      dsimp only
      generalize Ss n hs m = L at ih lt
      induction L with
      | nil => exact List.nodup_nil
      | cons s L ihL =>
        rw [List.flatMap_cons]
        obtain ⟨n1, n2⟩ := List.nodup_cons.mp ih
        have ls := lt s List.mem_cons_self
        refine List.nodup_append.mpr ⟨?_, ihL n2 fun x hx => lt x (List.mem_cons_of_mem _ hx), fun x hx y hy e => ?_⟩
        · refine List.nodup_cons.mpr ⟨fun z => ?_, List.pairwise_singleton _ _⟩
          have := (top_inj ls ls (List.mem_singleton.mp z)).1
          cases this
        · obtain ⟨t, ht, h⟩ := List.mem_flatMap.mp hy
          have lt' := lt t (List.mem_cons_of_mem _ ht)
          obtain ⟨b, rfl⟩ : ∃ b, x = topN m b + s := by
            rcases List.mem_cons.mp hx with h | h
            · exact ⟨false, h⟩
            · exact ⟨true, List.mem_singleton.mp h⟩
          obtain ⟨c, rfl⟩ : ∃ c, y = topN m c + t := by
            rcases List.mem_cons.mp h with h | h
            · exact ⟨false, h⟩
            · exact ⟨true, List.mem_singleton.mp h⟩
          exact n1 ((top_inj ls lt' e).2 ▸ ht)
def hcnt (n : Nat) (hs : List (Nat × Nat × Nat)) (m : Nat) : Nat := ((List.range m).filter fun j => (look hs (n - 1 - j)).isSome).length
theorem Ss_len {n : Nat} (hs : List (Nat × Nat × Nat)) : ∀ m, (Ss n hs m).length * 2 ^ hcnt n hs m = 2 ^ m
  | 0 => by rw [Ss]; rfl
  | m + 1 => by
    have ih := Ss_len (n := n) hs m
    have hc : hcnt n hs (m + 1) = hcnt n hs m + (if (look hs (n - 1 - m)).isSome = true then 1 else 0) := by
      unfold hcnt
      rw [List.range_succ, List.filter_append, List.length_append]
      congr 1
      cases q : (look hs (n - 1 - m)).isSome <;> simp [q]
    rw [hc, Ss]
    cases q : look hs (n - 1 - m) with
    | some p =>
      dsimp only
      rw [List.length_map, Option.isSome_some, if_pos rfl, Nat.pow_succ, ← Nat.mul_assoc, ih, Nat.pow_succ]
    | none =>
      dsimp only
      rw [Option.isSome_none, if_neg Bool.false_ne_true, Nat.add_zero, Nat.pow_succ, ← ih]
      have : ((Ss n hs m).flatMap fun s => [topN m false + s, topN m true + s]).length = (Ss n hs m).length * 2 := by
        generalize Ss n hs m = L
        induction L with
        | nil => rfl
        | cons s L ihL =>
          rw [List.flatMap_cons, List.length_append, ihL, List.length_cons]
          show 2 + L.length * 2 = (L.length + 1) * 2
          omega
      rw [this, Nat.mul_assoc, Nat.mul_assoc, Nat.mul_comm 2]
theorem hcnt_all {n : Nat} {hs : List (Nat × Nat × Nat)} (F : FlatOk hs) (hlt : ∀ e ∈ hs, e.2.1 < 2 ^ n) : hcnt n hs n = hs.length := by
  unfold hcnt
  have p : ((List.range n).filter fun j => (look hs (n - 1 - j)).isSome).Perm ((hs.map (·.1)).map fun h => n - 1 - h) := by
    have below : ∀ e ∈ hs, e.1 < n := fun e he => by
      refine Nat.lt_of_not_le fun z => ?_
      have bt := (low_iff.mp (F.least e he)).2.1
      rw [Nat.testBit_lt_two_pow (Nat.lt_of_lt_of_le (hlt e he) (Nat.pow_le_pow_right (by decide) z))] at bt
      cases bt
    refine (List.perm_ext_iff_of_nodup (List.Pairwise.filter _ List.nodup_range) ?_).mpr fun j => ?_
    · refine List.pairwise_map.mpr (F.red.nd.imp_of_mem fun {a b} ha hb ne e => ne ?_)
      obtain ⟨x, hx, rfl⟩ := List.mem_map.mp ha
      obtain ⟨y, hy, rfl⟩ := List.mem_map.mp hb
      have := below x hx
      have := below y hy
      omega
    · rw [List.mem_filter, List.mem_range, List.mem_map]
      constructor
      · rintro ⟨h1, h2⟩
        obtain ⟨p, hp⟩ := Option.isSome_iff_exists.mp h2
        exact ⟨n - 1 - j, List.mem_map.mpr ⟨_, look_mem hp, rfl⟩, by omega⟩
      · rintro ⟨h, hh, rfl⟩
        obtain ⟨e, he, rfl⟩ := List.mem_map.mp hh
        have := below e he
        refine ⟨by omega, ?_⟩
        rw [show n - 1 - (n - 1 - e.1) = e.1 by omega, look_of F.red.nd he]
        rfl
  rw [p.length_eq, List.length_map, List.length_map]
theorem bitsS_cons {m s : Nat} (hs : s < 2 ^ m) (b : Bool) : bitsS (m + 1) (topN m b + s) = (if b = true then 1 else 0) :: bitsS m s := by
  unfold bitsS
  rw [List.range_succ_eq_map, List.map_cons, List.map_map]
  congr 1
  · rw [show m + 1 - 1 - 0 = m by omega, top_bit hs, if_pos rfl]
  · refine List.map_congr_left fun u hu => ?_
    have hu := List.mem_range.mp hu
    show (if (topN m b + s).testBit (m + 1 - 1 - (u + 1)) = true then 1 else 0) = _
    rw [top_bit hs, if_neg (show ¬ m + 1 - 1 - (u + 1) = m by omega), show m + 1 - 1 - (u + 1) = m - 1 - u by omega]
theorem top_split {m s : Nat} (h : s < 2 ^ (m + 1)) : ∃ b t, t < 2 ^ m ∧ s = topN m b + t := by
  by_cases z : 2 ^ m ≤ s
  · exact ⟨true, s - 2 ^ m, by rw [Nat.pow_succ] at h; omega, by unfold topN; rw [if_pos rfl]; omega⟩
  · exact ⟨false, s, by omega, by unfold topN; rw [if_neg Bool.false_ne_true]; omega⟩
def bitsD (n s : Nat) : PyData := .tuple (((bitsS n s).map Int.ofNat).map .int)
theorem dp_bits {K : PySem.W.Frag} {H : Hp} {n : Nat} {v : V} {s : Nat} (h : BitsV K n H v s) : Dp K H v (bitsD n s) := by
  obtain ⟨t, rfl, h⟩ := h
  rw [iv_ints] at h
  exact .tup h (dp_ints _)
theorem bits_lt : ∀ {n s t : Nat}, s < 2 ^ n → t < 2 ^ n → ((bitsS n s).map Int.ofNat < (bitsS n t).map Int.ofNat ↔ s < t)
  | 0, s, t, hs, ht => by
    have h1 : s = 0 := by simpa using hs
    have h2 : t = 0 := by simpa using ht
    subst h1 h2
    simp [bitsS]
  | n + 1, s, t, hs, ht => by
    obtain ⟨b, x, hx, rfl⟩ := top_split hs
    obtain ⟨c, y, hy, rfl⟩ := top_split ht
    have ih := bits_lt hx hy
    rw [bitsS_cons hx, bitsS_cons hy, List.map_cons, List.map_cons, List.cons_lt_cons_iff, ih]
    unfold topN
    cases b <;> cases c <;> simp <;> omega
theorem bits_le {n s t : Nat} (hs : s < 2 ^ n) (ht : t < 2 ^ n) (v u : V) : decide (s ≤ t) = PySem.W.dataLe false (fun (b : V × PyData) => b.2) (v, bitsD n s) (u, bitsD n t) := by
  rw [PySem.W.dataLe_eq]
  show _ = !PySem.W.dataLt (bitsD n t) (bitsD n s)
  unfold bitsD
  rw [PySem.W.dataLt_tuple]
  show _ = !PySem.W.rowLt _ _
  rw [PySem.W.dataLt_ints]
  have h := bits_lt ht hs
  by_cases z : s ≤ t
  · rw [decide_eq_true z, decide_eq_false (fun y => by have := h.mp y; omega)]
    rfl
  · rw [decide_eq_false z, decide_eq_true (h.mpr (by omega))]
    rfl
theorem bits_sorted {K : PySem.W.Frag} {H : Hp} {n : Nat} {cs : List (V × Nat)} (hv : ∀ c ∈ cs, BitsV K n H c.1 c.2) (hlt : ∀ c ∈ cs, c.2 < 2 ^ n) {T : List Nat} (hT : T.Pairwise (· < ·)) (p : (cs.map (·.2)).Perm T) :
    Paired (BitsV K n H) (((cs.map fun c => ((c.1, bitsD n c.2) : V × PyData)).mergeSort (PySem.W.dataLe false (·.2))).map (·.1)) T := by
  have key : ∀ a ∈ cs, ∀ b ∈ cs, decide (a.2 ≤ b.2) = PySem.W.dataLe false (fun (b : V × PyData) => b.2) (a.1, bitsD n a.2) (b.1, bitsD n b.2) := fun a ha b hb => bits_le (hlt a ha) (hlt b hb) _ _
  rw [← List.map_mergeSort (r := fun a b : V × Nat => decide (a.2 ≤ b.2)) (f := fun c : V × Nat => ((c.1, bitsD n c.2) : V × PyData)) key, List.map_map]
  have srt1 := List.pairwise_mergeSort (le := fun a b : V × Nat => decide (a.2 ≤ b.2)) (fun a b c h1 h2 => by simp only [decide_eq_true_eq] at *; omega) (fun a b => by simp only [Bool.or_eq_true, decide_eq_true_eq]; omega) cs
  have perm1 := List.mergeSort_perm cs (fun a b : V × Nat => decide (a.2 ≤ b.2))
  generalize cs.mergeSort (fun a b : V × Nat => decide (a.2 ≤ b.2)) = zs at srt1 perm1
  have hz : ∀ c ∈ zs, BitsV K n H c.1 c.2 := fun c hc => hv c (perm1.mem_iff.mp hc)
  have ez : zs.map (·.2) = T := by
    refine List.Perm.eq_of_pairwise (le := fun a b : Nat => a ≤ b) (fun a b _ _ h1 h2 => Nat.le_antisymm h1 h2) ?_ (hT.imp fun h => Nat.le_of_lt h) ((perm1.map (·.2)).trans p)
    rw [List.pairwise_map]
    exact srt1.imp fun h => by simpa using h
  rw [← ez]
  clear ez srt1 perm1
  induction zs with
  | nil => exact .nil
  | cons c zs ih => exact .cons (hz c List.mem_cons_self) (ih fun x hx => hz x (List.mem_cons_of_mem _ hx))
theorem bits_sort_facts {K : PySem.W.Frag} {H : Hp} {n : Nat} (n0 : 0 < n) {cs : List (V × Nat)} (hv : ∀ c ∈ cs, BitsV K n H c.1 c.2) :
    (∀ b ∈ cs.map (fun c => ((c.1, bitsD n c.2) : V × PyData)), Dp K H b.1 b.2) ∧ PySem.W.AllAlike ((cs.map (fun c => ((c.1, bitsD n c.2) : V × PyData))).map (·.2)) ∧ PySem.W.Sortable ((cs.map (fun c => ((c.1, bitsD n c.2) : V × PyData))).map (·.2)) ∧ (∀ b ∈ cs.map (fun c => ((c.1, bitsD n c.2) : V × PyData)), b.2.depth ≤ 40) := by
  have one : ∀ d ∈ (cs.map (fun c => ((c.1, bitsD n c.2) : V × PyData))).map (·.2), ∃ s, d = bitsD n s := fun d h => by
    obtain ⟨x, m, rfl⟩ := List.mem_map.mp h
    obtain ⟨c, _, rfl⟩ := List.mem_map.mp m
    exact ⟨c.2, rfl⟩
  refine ⟨fun b hb => ?_, fun d1 h1 d2 h2 => ?_, .inl fun d h => ?_, fun b hb => ?_⟩
  · obtain ⟨c, hc, rfl⟩ := List.mem_map.mp hb
    exact dp_bits (hv c hc)
  · obtain ⟨s, rfl⟩ := one d1 h1
    obtain ⟨t, rfl⟩ := one d2 h2
    exact PySem.W.alike_ints _ _
  · obtain ⟨s, rfl⟩ := one d h
    obtain ⟨k, rfl⟩ : ∃ k, n = k + 1 := ⟨n - 1, by omega⟩
    unfold bitsD bitsS
    rw [List.range_succ_eq_map, List.map_cons, List.map_cons, List.map_cons]
    exact ⟨_, _, rfl⟩
  · obtain ⟨s, q⟩ := one b.2 (List.mem_map.mpr ⟨b, hb, rfl⟩)
    rw [q]
    show PyData.depthAll _ + 1 ≤ 40
    rw [depth_ints]
    decide
def inF (n : Nat) (hs : List (Nat × Nat × Nat)) (s : Nat) : Bool := (canon hs).all fun l => holdsB l (fS n s)
def places (n : Nat) (hs : List (Nat × Nat × Nat)) : List Nat := (List.range (2 ^ n)).filter (inF n hs)
theorem places_perm {n : Nat} {hs : List (Nat × Nat × Nat)} (F : FlatOk hs) (hlt : ∀ e ∈ hs, e.2.1 < 2 ^ n) : (Ss n hs n).Perm (places n hs) := by
  refine (List.perm_ext_iff_of_nodup (Ss_nodup F hlt n (Nat.le_refl _)) (List.Pairwise.filter _ List.nodup_range)).mpr fun s => ?_
  rw [Ss_mem F hlt n (Nat.le_refl _), List.mem_filter, List.mem_range]
  unfold inF
  rw [all_canon F]
  exact ⟨fun h => ⟨h.1, fun e he => h.2 e he (by omega)⟩, fun h => ⟨h.1, fun e he _ => h.2 e he⟩⟩
theorem places_len {n : Nat} {hs : List (Nat × Nat × Nat)} (F : FlatOk hs) (hlt : ∀ e ∈ hs, e.2.1 < 2 ^ n) : (places n hs).length * 2 ^ hs.length = 2 ^ n := by
  rw [← (places_perm F hlt).length_eq, ← hcnt_all F hlt]
  exact Ss_len hs n
theorem places_lt (n : Nat) (hs : List (Nat × Nat × Nat)) : (places n hs).Pairwise (· < ·) := List.Pairwise.filter _ List.pairwise_lt_range
def cntB (N x : Nat) : Nat := ((List.range N).filter fun s => x.testBit s).length
theorem cnt_zero (N : Nat) : cntB N 0 = 0 := by
  unfold cntB
  rw [List.filter_eq_nil_iff.mpr fun s _ => by rw [Nat.zero_testBit]; exact Bool.false_ne_true]
  rfl
theorem cnt_more {N x : Nat} (h : x < 2 ^ N) (d : Nat) : cntB (N + d) x = cntB N x := by
  induction d with
  | zero => rfl
  | succ d ih =>
    unfold cntB at ih ⊢
    rw [← Nat.add_assoc, List.range_succ, List.filter_append, List.length_append, ih]
    have : x.testBit (N + d) = false := Nat.testBit_lt_two_pow (Nat.lt_of_lt_of_le h (Nat.pow_le_pow_right (by decide) (by omega)))
    rw [List.filter_cons_of_neg (by rw [this]; exact Bool.false_ne_true)]
    rfl
def tbl16 : List Nat := [0, 1, 1, 2, 1, 2, 2, 3, 1, 2, 2, 3, 2, 3, 3, 4]
theorem tbl_is : ∀ r, r < 16 → tbl16[r]? = some (cntB 4 r) := by decide +kernel
theorem cnt_step (N x : Nat) : cntB (4 + N) x = cntB 4 (x % 16) + cntB N (x / 16) := by
  unfold cntB
  rw [List.range_add, List.filter_append, List.length_append, List.filter_map, List.length_map]
  congr 1
  · congr 1
    refine List.filter_congr fun s hs => ?_
    have hs := List.mem_range.mp hs
    rw [show (16 : Nat) = 2 ^ 4 from rfl, Nat.testBit_mod_two_pow, decide_eq_true hs, Bool.true_and]
  · congr 1
    refine List.filter_congr fun s _ => ?_
    show x.testBit (4 + s) = _
    rw [show (16 : Nat) = 2 ^ 4 from rfl, Nat.testBit_div_two_pow, Nat.add_comm]
theorem bits_cnt {N x : Nat} {p : Nat → Bool} (h : BitsOf N x p) : cntB N x = ((List.range N).filter p).length := by
  unfold cntB
  congr 1
  exact List.filter_congr fun s hs => h.2 s (List.mem_range.mp hs)
def sp_bit_ahead (K : PySem.W.Frag) : Sp := fun vs H Q _ => ∃ (v : V) (b : Addr) (p : Nat × Nat) (u n s : Nat), vs = [v, .ref b] ∧ LineV K H v p ∧ low p.1 = some u ∧ p.1 < 2 ^ n ∧ p.2 < 2 ∧ n ≤ 62 ∧ s < 2 ^ (n - 1 - u) ∧ SqT K H b (iv (bitsS (n - 1 - u) s)) ∧
  ∀ H', Same H H' → Q (.int ((if aheadB n p u s = true then 1 else 0 : Nat) : Int)) H'
def sp_bits_in (K : PySem.W.Frag) : Sp := fun vs H Q _ => ∃ (n : Nat) (v : V) (hs : List (Nat × Nat × Nat)), vs = [.int (n : Int), v] ∧ FlatV K H v hs ∧ FlatOk hs ∧ (∀ e ∈ hs, e.2.1 < 2 ^ n) ∧ n ≤ 7 ∧
  ∀ H' a us, Same H H' → H a = none → H' a = some (.lst us) → Paired (BitsV K n H') us (places n hs) → Q (.ref a) H'
def sp_law_count (K : PySem.W.Frag) : Sp := fun vs H Q _ => ∃ (x N : Nat), vs = [.int (x : Int)] ∧ x < 2 ^ N ∧ N ≤ 128 ∧ ∀ H', Same H H' → Q (.int (cntB N x : Nat)) H'
end Es
set_option Elab.async false
set_option linter.all false
set_option maxRecDepth 100000
set_option maxHeartbeats 4000000
namespace Es
open PySem PySem.Spec PyProof.Rows L2
section
variable {P : Program} {w : World} {A : Around} {E : Value → Shared → Prop} {s : Shared}
theorem sort_few {a : Addr} {vs : List Value} {n : Nat} {Pf : PySem.Fin → Shared → Prop} (ho : s.heap.get? a = some (seqObj "list" vs.toArray n)) (few : vs.length ≤ 1) (h : Pf (.done (.ret .none)) { s with heap := sortedHeap s.heap a vs vs.toArray }) :
    wpAny (model P w) A (Builtin.«list.sort» ⟨[.ref a], []⟩) Pf E s := by
  refine SK.plain_sort (r := fun _ => 0) ho (by omega) (fun two => absurd two (by omega)) fun ps out h1 h2 _ => ?_
  have same : out = vs.toArray := by
    match vs, few with
    | [], _ =>
      have : ps = [] := List.perm_nil.mp h2
      rw [this] at h1
      exact Array.toList_inj.mp h1
    | [x], _ =>
      have : ps = [(x, x)] := List.perm_singleton.mp h2
      rw [this] at h1
      exact Array.toList_inj.mp h1
  rw [same]
  exact h
theorem sorted_few {l : Addr} {vs : List Value} {Q : Value → Shared → Prop} (hl : s.heap.IsList l vs.toArray) (few : vs.length ≤ 1) (hQ : Q (.ref (s.heap.objs.size + 1)) { s with heap := sortedAll s.heap vs vs.toArray }) :
    wpAny (model P w) A (call (.builtin "sorted") [.ref l]) Q E s := by
  have line : vs.length < sizeLine := by rw [sizeLine_eq]; omega
  refine Calls.call_function_entry kind_sorted plain_sorted entry_sorted (args_sorted1 _) ?_
  unfold Builtin.«sorted»
  refine wpAny_bind (m := checkCount "sorted" 1 1 _) (wpAny_pure ?_)
  refine wpAny_bind (collect_list hl ?_ (by rw [sizeLine_eq]; omega))
  refine wpAny_bind (wpAny_newList ?_ (by rw [sizeLine_eq]; omega))
  have size1 : ((s.heap.push (seqObj "list" #[] 0)).update s.heap.objs.size (Obj.mapSeq (· ++ vs.toArray))).objs.size = s.heap.objs.size + 1 := by
    rw [Heap.size_update, size_push']
  have at1 : (((s.heap.push (seqObj "list" #[] 0)).update s.heap.objs.size (Obj.mapSeq (· ++ vs.toArray))).push (seqObj "list" vs.toArray 0)).get? (s.heap.objs.size + 1) = some (seqObj "list" vs.toArray 0) := by
    rw [← size1]
    exact Heap.get?_push_size _ rfl
  show wpAny _ _ _ _ _ { s with heap := ((s.heap.push (seqObj "list" #[] 0)).update s.heap.objs.size (Obj.mapSeq (· ++ vs.toArray))).push (seqObj "list" vs.toArray 0) }
  rw [size1]
  refine wpAny_bind (wpAny_holding (wpAny_call_entry slot_list_sort ⟨_, at1, rfl⟩ entry_list_sort (sort_few at1 few ⟨_, rfl, ?_⟩) (args_list_sort _)))
  exact wpAny_pure ⟨_, rfl, hQ⟩
end
def rSortedBoth (K : PySem.W.Frag) : List V → Hp → VK → Prop := fun xs H Q => rSortedData K xs H Q ∨ ∃ (a : Addr) (x : V), xs = [.ref a] ∧ SqL K H a [x] ∧ ∀ p, H p = none → Q (.ref p) (upd H p (.lst [x]))
theorem cr_sortedBoth {X : Cx} (hu : X.A.units + 64 < cLine) : CallR X (.builtin "sorted") (rSortedBoth X.K) := by
  intro pins s σ H xs us Q I r h
  rcases h with h | ⟨a, x, rfl, hs, q⟩
  · exact cr_sortedData hu pins s σ H xs us Q I r h
  · rw [Vals.ref1 r]
    obtain ⟨its, rv, pl, hz⟩ := I.list hs
    have one : its.length = 1 := rv.length.symm
    refine sorted_few pl.isList (by omega) ?_
    obtain ⟨c, hc⟩ := sortedAll_at s.heap its its.toArray
    exact ⟨.ref (s.heap.objs.size + 1), upd H (s.heap.objs.size + 1) (.lst [x]), I.laid (t' := s.toks) (fun _ _ => sortedAll_old) (Nat.le_succ _) ⟨hz, its, c, rv, hc⟩, rfl, q _ (I.hok.fresh (Nat.le_succ _))⟩
end Es
set_option Elab.async false
set_option linter.all false
set_option maxRecDepth 100000
set_option maxHeartbeats 4000000
namespace Es
open PySem PySem.Spec PyProof.Rows L2
theorem for_sq {K : PySem.W.Frag} {a : Addr} {j : Nat} {xs : List V} {g : TG} {tb : TS} {D : Ends} {σ : L2.St} {B H : Hp} (hj : σ[j]? = some (some (.ref a))) (hS : Sq K B a xs) (s0 : Same B H) (Pv : Nat → L2.St → Hp → Prop) (h0 : Pv 0 σ H) (hl : ∀ i σ H', Pv i σ H' → Same B H')
    (hs : ∀ i x σ H, xs[i]? = some x → Pv i σ H → g x σ H fun σ2 H2 => tb { D with nx := Pv (i + 1), ct := Pv (i + 1), bk := D.nx } σ2 H2) (hd : ∀ σ H, Pv xs.length σ H → D.nx σ H) :
    tFor (iOr (iList K (tVar j)) (iTup K (tVar j))) g tb D σ H := by
  rcases hS with hS | hS
  · exact .inl ⟨_, hj, a, rfl, ⟨xs, s0.seq hS⟩, for_list (K := K) (a := a) (xs := xs) Pv h0 (fun i σ H' _ p => (hl i σ H' p).seq hS) hs hd⟩
  · exact .inr ⟨_, hj, a, rfl, ⟨xs, sqT_same s0 hS⟩, for_tup (K := K) (a := a) (xs := xs) Pv h0 (fun i σ H' _ p => sqT_same (hl i σ H' p) hS) hs hd⟩
def sp_flat_ofS (K : PySem.W.Frag) : Sp := fun vs H Q _ => ∃ (a : Addr) (us : List V) (ls : List (Nat × Nat)), vs = [.ref a] ∧ Sq K H a us ∧ Paired (LineV K H) us ls ∧ (∀ l ∈ ls, l.1 < 2 ^ 63 ∧ l.2 < 2) ∧ ∀ H' v, Same H H' → OptFlat K H' v (lflat ls) → Q v H'
theorem flatS_mono {K : PySem.W.Frag} {vs : List V} {H : Hp} {Q : VK} {E : XK} (h : sp_flat_of K vs H Q E) : sp_flat_ofS K vs H Q E := by
  obtain ⟨a, us, ls, e, hS, r⟩ := h
  exact ⟨a, us, ls, e, .inl hS, r⟩
def sp_law_inS (K : PySem.W.Frag) : Sp := fun vs H Q _ => ∃ (v : V) (t : Addr) (us : List V) (n : Nat) (ls : List (Nat × Nat)), vs = [v, .ref t] ∧ RoomV K H v n ∧ n ≤ 7 ∧ Sq K H t us ∧ Paired (LineV K H) us ls ∧ (∀ l ∈ ls, l.1 < 2 ^ n ∧ l.2 < 2) ∧
  ∀ x, BitsOf (2 ^ n) x (fun s => ls.all fun l => holdsB l (fS n s)) → Q (.int (x : Int)) H
theorem inS_mono {K : PySem.W.Frag} {vs : List V} {H : Hp} {Q : VK} {E : XK} (h : sp_law_in K vs H Q E) : sp_law_inS K vs H Q E := by
  obtain ⟨v, t, us, n, ls, e, h1, h2, h3, r⟩ := h
  exact ⟨v, t, us, n, ls, e, h1, h2, .inr h3, r⟩
theorem callee_mono {P : Program} {w : World} {K : PySem.W.Frag} {mg : Str → Option Value} {base : Heap} {k : Nat} {x : Str} {ps : List Str} {sp sp' : Sp} (m : ∀ {vs H Q E}, sp vs H Q E → sp' vs H Q E) (c : CalleeOf P w K mg base k x ps sp') : CalleeOf P w K mg base k x ps sp := by
  obtain ⟨f, fd, F, r⟩ := c
  exact ⟨f, fd, ⟨fun h => F.lenG (m h), fun a b c d e h => F.runG a b c d e (m h)⟩, r⟩
def sp_law_drawn_lines (K : PySem.W.Frag) : Sp := fun vs H Q _ => ∃ (b c : Addr) (n : Nat), vs = [.ref b, .int (n : Int)] ∧ BagAt K H b c ∧ n ≤ 7 ∧
  ∀ H' a us ls, But b H H' → BagAt K H' b c → H a = none → a ≠ b → H' a = some (.lst us) → Paired (LineV K H') us ls → (∀ l ∈ ls, l.1 < 2 ^ n ∧ l.2 < 2) → us.length ≤ 20 → Q (.ref a) H'
def sp_law_is_flat_right (K : PySem.W.Frag) : Sp := fun vs H Q _ => ∃ (b c a : Addr) (v : V) (n : Nat) (us : List V) (ls : List (Nat × Nat)), vs = [.ref b, v, .ref a] ∧ BagAt K H b c ∧ RoomV K H v n ∧ n ≤ 7 ∧ a ≠ b ∧ H a = some (.lst us) ∧ Paired (LineV K H) us ls ∧ (∀ l ∈ ls, l.1 < 2 ^ n ∧ l.2 < 2) ∧ us.length ≤ 20 ∧
  ∀ H', But b H H' → BagAt K H' b c → Q (.bl true) H'
def sp_law_are_wide_right (K : PySem.W.Frag) : Sp := fun vs H Q _ => ∃ (b c : Addr), vs = [.ref b] ∧ BagAt K H b c ∧ ∀ H', Q (.bl true) H'
theorem bts_low {m u : Nat} (hm : m < 2 ^ 63) (hl : low m = some u) : bts m = u :: (bts (m >>> (u + 1))).map fun i => u + 1 + i := by
  obtain ⟨u63, bu, below⟩ := low_iff.mp hl
  refine (bts_of ?_ fun v => ?_).symm
  · refine List.pairwise_cons.mpr ⟨fun v hv => ?_, ?_⟩
    · obtain ⟨i, _, rfl⟩ := List.mem_map.mp hv
      show u < u + 1 + i
      omega
    · exact List.pairwise_map.mpr ((bts_lt _).imp fun {a b} h => by omega)
  · rw [List.mem_cons, List.mem_map]
    constructor
    · rintro (rfl | ⟨i, hi, rfl⟩)
      · exact ⟨u63, bu⟩
      · have := (mem_bts.mp hi).2
        rw [Nat.testBit_shiftRight] at this
        refine ⟨?_, this⟩
        refine Nat.lt_of_not_le fun z => ?_
        rw [bit_ge hm z] at this
        cases this
    · rintro ⟨v63, bv⟩
      by_cases z : v = u
      · exact .inl z
      · have h2 : ¬ v < u := fun y => by
          rw [below v y] at bv
          cases bv
        refine .inr ⟨v - (u + 1), mem_bts.mpr ⟨by omega, ?_⟩, by omega⟩
        rw [Nat.testBit_shiftRight, show u + 1 + (v - (u + 1)) = v by omega]
        exact bv
theorem bitsS_getD (m s i : Nat) : decide ((bitsS m s).getD i 0 = 1) = G8 m s i := by
  unfold G8 bitsS
  rw [List.getD_eq_getElem?_getD, List.getElem?_map]
  by_cases h : i < m
  · rw [List.getElem?_range h, decide_eq_true h, Bool.true_and, Bool.eq_iff_iff, decide_eq_true_eq]
    show (if s.testBit (m - 1 - i) = true then 1 else 0) = 1 ↔ _
    split <;> simp_all
  · rw [List.getElem?_eq_none (by rw [List.length_range]; omega), decide_eq_false h]
    rfl
theorem bitsS_lt (m s : Nat) : ∀ b ∈ bitsS m s, b < 2 := fun b hb => by
  unfold bitsS at hb
  obtain ⟨u, _, rfl⟩ := List.mem_map.mp hb
  split <;> decide
theorem ahead_val {n u s : Nat} {p : Nat × Nat} (p2 : p.2 < 2) : p.2 ^^^ (wsum (p.1 >>> (u + 1)) (bitsS (n - 1 - u) s) % 2) = if aheadB n p u s = true then 1 else 0 := by
  have h := wsum_par (p.1 >>> (u + 1)) (bitsS (n - 1 - u) s) (bitsS_lt _ _)
  unfold holdsL at h
  have e : (fun i => decide ((bitsS (n - 1 - u) s).getD i 0 = 1)) = G8 (n - 1 - u) s := funext (bitsS_getD _ _)
  rw [e] at h
  unfold aheadB
  rw [h]
  have w2 : wsum (p.1 >>> (u + 1)) (bitsS (n - 1 - u) s) % 2 < 2 := Nat.mod_lt _ (by decide)
  show _ = if (decide (p.2 = 1) ^^ decide (wsum (p.1 >>> (u + 1)) (bitsS (n - 1 - u) s) % 2 = 1)) = true then 1 else 0
  generalize wsum (p.1 >>> (u + 1)) (bitsS (n - 1 - u) s) % 2 = w at w2
  have a : p.2 = 0 ∨ p.2 = 1 := by omega
  have b : w = 0 ∨ w = 1 := by omega
  rcases a with a | a <;> rcases b with b | b <;> rw [a, b] <;> rfl
theorem cut_tail (x : Nat) (ms : List Nat) : cutV (iv (x :: ms)) (some 1) none = iv ms ∧ HT.sIx (iv (x :: ms)).length 0 (some 1) = 1 := by
  have e0 : iv (x :: ms) = V.int (x : Int) :: iv ms := rfl
  have h1 : HT.sIx (iv (x :: ms)).length 0 (some 1) = 1 := by
    rw [e0, List.length_cons]
    unfold HT.sIx
    simp
  refine ⟨?_, h1⟩
  unfold cutV
  have h2 : HT.sIx (iv (x :: ms)).length (iv (x :: ms)).length none = (iv (x :: ms)).length := rfl
  rw [h1, h2, e0, List.drop_succ_cons, List.drop_zero, List.take_of_length_le (by simp)]
end Es
set_option Elab.async false
set_option linter.all false
set_option maxRecDepth 100000
set_option maxHeartbeats 4000000
namespace Es
open PySem PySem.Spec PyProof.Rows L2
theorem lookB_look {hs : List (Nat × Nat × Nat)} (R : RedOk hs) (u : Nat) : lookB (byHead hs) u = look hs u := by
  have pm := byHead_perm R
  cases q : lookB (byHead hs) u with
  | none =>
    rw [lookB_none] at q
    refine (look_none.mpr fun h => q ?_).symm
    obtain ⟨e, he, rfl⟩ := List.mem_map.mp h
    exact List.mem_map.mpr ⟨e, pm.mem_iff.mpr he, rfl⟩
  | some b => exact (look_of R.nd (e := (u, b)) (pm.mem_iff.mp (lookB_mem q))).symm
theorem Ss_len_le (n : Nat) (hs : List (Nat × Nat × Nat)) (m : Nat) : (Ss n hs m).length ≤ 2 ^ m := by
  have h := Ss_len (n := n) hs m
  have p := Nat.two_pow_pos (hcnt n hs m)
  calc (Ss n hs m).length = (Ss n hs m).length * 1 := (Nat.mul_one _).symm
    _ ≤ (Ss n hs m).length * 2 ^ hcnt n hs m := Nat.mul_le_mul_left _ p
    _ = 2 ^ m := h
theorem cat_bits {K : PySem.W.Frag} {H : Hp} {i s : Nat} {b : Bool} {q a : Addr} {Q : VK} (hq : SqT K H q [.int ((if b = true then 1 else 0 : Nat) : Int)]) (ha : SqT K H a (iv (bitsS i s))) (hs : s < 2 ^ i) (i7 : i ≤ 62)
    (k : ∀ H' v, Same H H' → BitsV K (i + 1) H' v (topN i b + s) → Q v H') : rCatA K (.ref q) (.ref a) H Q := by
  have e : iv (bitsS (i + 1) (topN i b + s)) = [V.int ((if b = true then 1 else 0 : Nat) : Int)] ++ iv (bitsS i s) := by
    rw [bitsS_cons hs]
    rfl
  refine ⟨q, a, _, _, rfl, rfl, hq, ha, ?_, fun z => (by cases z), fun _ z => ?_, fun _ _ p hp => ?_⟩
  · rw [iv_len, bitsS_len]
    have : [V.int ((if b = true then 1 else 0 : Nat) : Int)].length = 1 := rfl
    rw [this]
    exact Nat.le_of_lt (small1000 (by omega))
  · refine k H _ (Same.refl _) ⟨q, rfl, ?_⟩
    rw [e, z, List.append_nil]
    exact hq
  · refine k _ _ (same_new hp) ⟨p, rfl, ?_⟩
    rw [e]
    exact .inl (.inl upd_same)
theorem two_len {α β : Type} (f g : α → β) : ∀ l : List α, (l.flatMap fun s => [f s, g s]).length = 2 * l.length
  | [] => rfl
  | a :: l => by
    rw [List.flatMap_cons, List.length_append, two_len f g l]
    show 2 + 2 * l.length = 2 * (l.length + 1)
    omega
theorem lc2_list {K : PySem.W.Frag} {a : Addr} {xs : List V} {g : TG} {tt : TT} {wi1 : TI} {g1 : TG} {tt1 : TT} {te : TE} {vs vs1 : List Nat} {σ : L2.St} {H1 : Hp} {D : Addr} {Qd : Hp → Prop} (Pv : Nat → Hp → Prop) (h0 : Pv 0 (upd H1 D (.lst []))) (hl : ∀ i H, i ≤ xs.length → Pv i H → SqL K H a xs)
    (hs : ∀ i x H, xs[i]? = some x → Pv i H → g x (wipe σ vs) H fun σ2 H2 => wipe σ2 vs = wipe σ vs ∧ tt σ2 H2 fun b H3 =>
      if b = true then wi1 σ2 H3 fun J1 H4 => ∃ W1 : Nat → Nat → Hp → Prop, (∃ m, W1 0 m H4) ∧ ∀ j k H, W1 j k H →
        (J1.stop j H ∧ Pv (i + 1) H) ∨ (J1.go j H ∧ ∃ Nx1 : Hp → Prop, (∀ H', Nx1 H' → ∃ k', k' < k ∧ W1 (j + 1) k' H') ∧ ∀ x H', J1.yld j H x H' → g1 x (wipe σ2 vs1) H' fun σ3 H5 => wipe σ3 vs1 = wipe σ2 vs1 ∧ tt1 σ3 H5 fun b H6 =>
          if b = true then te σ3 H6 fun y H7 => ∃ acc, H7 D = some (.lst acc) ∧ acc.length < sizeLine ∧ Nx1 (upd H7 D (.lst (acc ++ [y]))) else Nx1 H6)
      else Pv (i + 1) H3) (hd : ∀ H, Pv xs.length H → Qd H) :
    ∃ W : Nat → Nat → Hp → Prop, (∃ m, W 0 m (upd H1 D (.lst []))) ∧ ∀ i m H, W i m H →
      ((Itl K a).stop i H ∧ Qd H) ∨ ((Itl K a).go i H ∧ ∃ Nx : Hp → Prop, (∀ H', Nx H' → ∃ m', m' < m ∧ W (i + 1) m' H') ∧ ∀ x H', (Itl K a).yld i H x H' → g x (wipe σ vs) H' fun σ2 H2 => wipe σ2 vs = wipe σ vs ∧ tt σ2 H2 fun b H3 =>
        if b = true then wi1 σ2 H3 fun J1 H4 => ∃ W1 : Nat → Nat → Hp → Prop, (∃ m, W1 0 m H4) ∧ ∀ j k H, W1 j k H →
          (J1.stop j H ∧ Nx H) ∨ (J1.go j H ∧ ∃ Nx1 : Hp → Prop, (∀ H', Nx1 H' → ∃ k', k' < k ∧ W1 (j + 1) k' H') ∧ ∀ x H', J1.yld j H x H' → g1 x (wipe σ2 vs1) H' fun σ3 H5 => wipe σ3 vs1 = wipe σ2 vs1 ∧ tt1 σ3 H5 fun b H6 =>
            if b = true then te σ3 H6 fun y H7 => ∃ acc, H7 D = some (.lst acc) ∧ acc.length < sizeLine ∧ Nx1 (upd H7 D (.lst (acc ++ [y]))) else Nx1 H6)
        else Nx H3) := by
  refine ⟨fun i m H => m = xs.length - i ∧ i ≤ xs.length ∧ Pv i H, ⟨xs.length, by simp, Nat.zero_le _, h0⟩, ?_⟩
  rintro i m H ⟨rfl, hi, p⟩
  have q := hl i H hi p
  by_cases hlt : i < xs.length
  · refine .inr ⟨⟨xs, xs[i], q, by simp [hlt]⟩, Pv (i + 1), fun H' p' => ⟨xs.length - (i + 1), by omega, rfl, hlt, p'⟩, fun x H' y => ?_⟩
    obtain ⟨e, y⟩ := y
    subst e
    exact hs i x _ (y xs q) p
  · have e : i = xs.length := by omega
    subst e
    exact .inl ⟨⟨xs, q, Nat.le_refl _⟩, hd H p⟩
theorem lc2_tup {K : PySem.W.Frag} {a : Addr} {xs : List V} {g1 : TG} {tt1 : TT} {te : TE} {vs1 : List Nat} {σ2 : L2.St} {H4 : Hp} {D : Addr} {Nx : Hp → Prop} (Pv : Nat → Hp → Prop) (h0 : Pv 0 H4) (hl : ∀ i H, i ≤ xs.length → Pv i H → SqT K H a xs)
    (hs : ∀ i x H, xs[i]? = some x → Pv i H → g1 x (wipe σ2 vs1) H fun σ3 H5 => wipe σ3 vs1 = wipe σ2 vs1 ∧ tt1 σ3 H5 fun b H6 =>
      if b = true then te σ3 H6 fun y H7 => ∃ acc, H7 D = some (.lst acc) ∧ acc.length < sizeLine ∧ Pv (i + 1) (upd H7 D (.lst (acc ++ [y]))) else Pv (i + 1) H6) (hd : ∀ H, Pv xs.length H → Nx H) :
    ∃ W1 : Nat → Nat → Hp → Prop, (∃ m, W1 0 m H4) ∧ ∀ j k H, W1 j k H →
      ((Itt K a).stop j H ∧ Nx H) ∨ ((Itt K a).go j H ∧ ∃ Nx1 : Hp → Prop, (∀ H', Nx1 H' → ∃ k', k' < k ∧ W1 (j + 1) k' H') ∧ ∀ x H', (Itt K a).yld j H x H' → g1 x (wipe σ2 vs1) H' fun σ3 H5 => wipe σ3 vs1 = wipe σ2 vs1 ∧ tt1 σ3 H5 fun b H6 =>
        if b = true then te σ3 H6 fun y H7 => ∃ acc, H7 D = some (.lst acc) ∧ acc.length < sizeLine ∧ Nx1 (upd H7 D (.lst (acc ++ [y]))) else Nx1 H6) := by
  refine ⟨fun i m H => m = xs.length - i ∧ i ≤ xs.length ∧ Pv i H, ⟨xs.length, by simp, Nat.zero_le _, h0⟩, ?_⟩
  rintro i m H ⟨rfl, hi, p⟩
  have q := hl i H hi p
  by_cases hlt : i < xs.length
  · refine .inr ⟨⟨xs, xs[i], q, by simp [hlt]⟩, Pv (i + 1), fun H' p' => ⟨xs.length - (i + 1), by omega, rfl, hlt, p'⟩, fun x H' y => ?_⟩
    obtain ⟨e, y⟩ := y
    subst e
    exact hs i x _ (y xs q) p
  · have e : i = xs.length := by omega
    subst e
    exact .inl ⟨⟨xs, q, Nat.le_refl _⟩, hd H p⟩
theorem cat_seq {K : PySem.W.Frag} {H : Hp} {a b : Addr} {xs ys : List V} {Q : VK} (ha : SqT K H a xs) (hb : SqT K H b ys) (hz : xs.length + ys.length ≤ sizeLine) (k : ∀ H' p, Same H H' → SqT K H' p (xs ++ ys) → Q (.ref p) H') : rCatA K (.ref a) (.ref b) H Q := by
  refine ⟨a, b, xs, ys, rfl, rfl, ha, hb, hz, fun z => ?_, fun _ z => ?_, fun _ _ p hp => ?_⟩
  · refine k H b (Same.refl _) ?_
    rw [z]
    exact hb
  · refine k H a (Same.refl _) ?_
    rw [z, List.append_nil]
    exact ha
  · exact k _ p (same_new hp) (.inl (.inl upd_same))
theorem heads_le {n : Nat} {hs : List (Nat × Nat × Nat)} (F : FlatOk hs) (hlt : ∀ e ∈ hs, e.2.1 < 2 ^ n) : hs.length ≤ n := by
  rw [← hcnt_all F hlt]
  unfold hcnt
  have := List.length_filter_le (fun j => (look hs (n - 1 - j)).isSome) (List.range n)
  rwa [List.length_range] at this
theorem cntD_facts {x : Nat} {D : PyData} (hx : x < 2 ^ 13) (h1 : nice D = true) (h2 : D.depth ≤ 3) (h3 : D.weight ≤ 30000) :
    nice (.list [.int (x : Int), D]) = true ∧ (PyData.list [.int (x : Int), D]).depth ≤ 40 ∧ (PyData.list [.int (x : Int), D]).weight ≤ 2 ^ 20 := by
  refine ⟨?_, ?_, ?_⟩
  · refine niceAll_iff.mpr fun y hy => ?_
    rcases List.mem_cons.mp hy with rfl | hy
    · exact decide_eq_true (by show (x : Int).natAbs < 10 ^ 12; omega)
    · rcases List.mem_cons.mp hy with rfl | hy
      · exact h1
      · cases hy
  · show max 0 (max _ 0) + 1 ≤ 40
    omega
  · have w : PyData.weight (.int (x : Int)) ≤ 13 := weight_int hx
    show PyData.weight (.int (x : Int)) + 1 + (D.weight + 1 + 0) ≤ 2 ^ 20
    omega
end Es
set_option Elab.async false
set_option linter.all false
set_option maxRecDepth 100000
set_option maxHeartbeats 4000000
namespace Es
open PySem PySem.Spec PyProof.Rows L2
theorem wh_out {m : Nat} : ∀ {L : List (Nat × Nat × Nat)} (z : Nat × Nat), (∀ e ∈ L, m.testBit e.1 = false) → L.foldl (wh1 m) z = z
  | [], _, _ => rfl
  | e :: L, z, h => by
    rw [List.foldl_cons]
    have : wh1 m z e = z := by
      unfold wh1
      rw [h e List.mem_cons_self]
      rfl
    rw [this]
    exact wh_out z fun x hx => h x (List.mem_cons_of_mem _ hx)
theorem wh_keeps {m h : Nat} (below : ∀ u, u < h → m.testBit u = false) : ∀ {L : List (Nat × Nat × Nat)} (z : Nat × Nat), (∀ e ∈ L, e.1 ≠ h ∧ ∀ u, u < e.1 → e.2.1.testBit u = false) → z.1.testBit h = true → (L.foldl (wh1 m) z).1.testBit h = true
  | [], _, _, hz => hz
  | e :: L, z, hL, hz => by
    rw [List.foldl_cons]
    refine wh_keeps below _ (fun x hx => hL x (List.mem_cons_of_mem _ hx)) ?_
    obtain ⟨n1, n2⟩ := hL e List.mem_cons_self
    unfold wh1
    cases q : m.testBit e.1 with
    | false => exact hz
    | true =>
      have ge : ¬ e.1 < h := fun y => by
        rw [below e.1 y] at q
        cases q
      show (z.1 ^^^ e.2.1).testBit h = true
      rw [Nat.testBit_xor, hz, n2 h (by omega)]
      rfl
theorem told_zero {hs gs : List (Nat × Nat × Nat)} (F : FlatOk hs) (FG : FlatOk gs) (im : ∀ f, sol gs f → sol hs f) {e : Nat × Nat × Nat} (he : e ∈ hs) : (wh gs e.2).1 = 0 ∧ (wh gs e.2).2 = 0 := by
  have e63 := (F.red.own e he).2.1
  have b2 := F.bit e he
  have on : ∀ f, sol gs f → holdsL e.2 f := fun f s => im f s e he
  have z : (wh gs e.2).1 = 0 := by
    refine Classical.byContradiction fun nz => ?_
    obtain ⟨f, s1, s2⟩ := flat_free FG (l := (e.2.1, 1 - e.2.2)) e63 (by show 1 - e.2.2 < 2; omega) (by rw [← (wh_row gs e.2.1 e.2.2 (1 - e.2.2)).1]; exact nz)
    exact (holds_flip b2).mp s2 (on f s1)
  obtain ⟨f, s⟩ := flat_has FG
  exact ⟨z, (flat_told FG b2 z s).mp (on f s)⟩
theorem head_in {hs gs : List (Nat × Nat × Nat)} (F : FlatOk hs) (FG : FlatOk gs) (im : ∀ f, sol gs f → sol hs f) {e : Nat × Nat × Nat} (he : e ∈ hs) : e.1 ∈ gs.map (·.1) := by
  refine Classical.byContradiction fun no => ?_
  obtain ⟨z, _⟩ := told_zero F FG im he
  obtain ⟨_, hb, below⟩ := low_iff.mp (F.least e he)
  have k := wh_keeps (m := e.2.1) (h := e.1) below (L := gs) e.2 (fun x hx => ⟨fun y => no (List.mem_map.mpr ⟨x, hx, y⟩), (low_iff.mp (FG.least x hx)).2.2⟩) hb
  have k : (wh gs e.2).1.testBit e.1 = true := k
  rw [z, Nat.zero_testBit] at k
  cases k
theorem xor_zero_eq {a b : Nat} (h : a ^^^ b = 0) : a = b := by
  have := congrArg (· ^^^ b) h
  simpa [Nat.xor_assoc] using this
theorem line_in {hs gs : List (Nat × Nat × Nat)} (F : FlatOk hs) (FG : FlatOk gs) (same : ∀ f, sol hs f ↔ sol gs f) {e : Nat × Nat × Nat} (he : e ∈ hs) : e ∈ gs := by
  obtain ⟨g, hg, hgh⟩ := List.mem_map.mp (head_in F FG (fun f => (same f).mpr) he)
  obtain ⟨z1, z2⟩ := told_zero F FG (fun f => (same f).mpr) he
  have others : ∀ x ∈ gs, x.1 ≠ e.1 → e.2.1.testBit x.1 = false := fun x hx ne => by
    obtain ⟨y, hy, hyh⟩ := List.mem_map.mp (head_in FG F (fun f => (same f).mp) hx)
    exact F.red.oth e he x.1 (List.mem_map.mpr ⟨y, hy, hyh⟩) ne
  obtain ⟨l1, l2, eq⟩ := List.append_of_mem hg
  have nd := FG.red.nd
  have ow := (F.red.own e he).2.2
  have out : ∀ x ∈ l1 ++ l2, e.2.1.testBit x.1 = false := fun x hx => by
    refine others x ?_ fun q => ?_
    · rw [eq]
      rcases List.mem_append.mp hx with hx | hx
      · exact List.mem_append_left _ hx
      · exact List.mem_append_right _ (List.mem_cons_of_mem _ hx)
    · rw [eq, List.map_append, List.map_cons] at nd
      have nd2 := List.perm_middle.nodup_iff.mp nd
      refine (List.nodup_cons.mp nd2).1 ?_
      rw [← List.map_append]
      exact List.mem_map.mpr ⟨x, hx, q.trans hgh.symm⟩
  have w : wh gs e.2 = (e.2.1 ^^^ g.2.1, e.2.2 ^^^ g.2.2) := by
    unfold wh
    rw [eq, List.foldl_append, List.foldl_cons, wh_out e.2 fun x hx => out x (List.mem_append_left _ hx), wh_out _ fun x hx => out x (List.mem_append_right _ hx)]
    unfold wh1
    rw [hgh, ow]
    rfl
  rw [w] at z1 z2
  have e1 : e.2.1 = g.2.1 := xor_zero_eq z1
  have e2 : e.2.2 = g.2.2 := xor_zero_eq z2
  have : e = g := Prod.ext hgh.symm (Prod.ext e1 e2)
  rw [this]
  exact hg
theorem canon_uniq {hs gs : List (Nat × Nat × Nat)} (F : FlatOk hs) (FG : FlatOk gs) (same : ∀ f, sol hs f ↔ sol gs f) : canon hs = canon gs := by
  have mem : ∀ e, e ∈ hs ↔ e ∈ gs := fun e => ⟨line_in F FG same, line_in FG F fun f => (same f).symm⟩
  have es : srt (hs.map (·.1)) = srt (gs.map (·.1)) := by
    unfold srt
    refine List.filter_congr fun u _ => ?_
    refine decide_eq_decide.mpr ?_
    constructor
    · intro h
      obtain ⟨e, he, rfl⟩ := List.mem_map.mp h
      exact List.mem_map.mpr ⟨e, (mem e).mp he, rfl⟩
    · intro h
      obtain ⟨e, he, rfl⟩ := List.mem_map.mp h
      exact List.mem_map.mpr ⟨e, (mem e).mpr he, rfl⟩
  unfold canon byHead
  rw [es]
  refine congrArg _ (List.map_congr_left fun h hh => ?_)
  obtain ⟨e, he, rfl⟩ := List.mem_map.mp (mem_srt.mp hh).2
  rw [look_of FG.red.nd he, look_of F.red.nd ((mem e).mpr he)]
theorem foldl_acc (acc : Nat) : ∀ bs : List Nat, bs.foldl (fun x b => 2 * x + b) acc = acc * 2 ^ bs.length + bs.foldl (fun x b => 2 * x + b) 0
  | [] => by simp
  | b :: bs => by
    rw [List.foldl_cons, List.foldl_cons, foldl_acc (2 * acc + b) bs, foldl_acc (2 * 0 + b) bs, List.length_cons, Nat.pow_succ]
    rw [Nat.add_mul, show 2 * acc * 2 ^ bs.length = acc * (2 ^ bs.length * 2) by rw [Nat.mul_comm 2 acc, Nat.mul_assoc, Nat.mul_comm 2], show 2 * 0 + b = b by omega]
    omega
theorem place_bits : ∀ bs : List Nat, (∀ b ∈ bs, b < 2) → bs.foldl (fun x b => 2 * x + b) 0 < 2 ^ bs.length ∧ bs = bitsS bs.length (bs.foldl (fun x b => 2 * x + b) 0)
  | [], _ => ⟨by decide, rfl⟩
  | b :: bs, h => by
    obtain ⟨i1, i2⟩ := place_bits bs fun x hx => h x (List.mem_cons_of_mem _ hx)
    have b2 := h b List.mem_cons_self
    rw [List.foldl_cons, foldl_acc, List.length_cons]
    have e : (2 * 0 + b) * 2 ^ bs.length = topN bs.length (decide (b = 1)) := by
      unfold topN
      have : b = 0 ∨ b = 1 := by omega
      rcases this with rfl | rfl
      · simp
      · simp
    rw [e]
    refine ⟨top_lt i1 _, ?_⟩
    rw [bitsS_cons i1, ← i2]
    have : b = 0 ∨ b = 1 := by omega
    rcases this with rfl | rfl <;> rfl
theorem linesL_facts {ls : List (Nat × Nat)} (h : ∀ l ∈ ls, l.2 < 2) (hl : ls.length ≤ 20) : nice (.list (ls.map lineD)) = true ∧ (PyData.list (ls.map lineD)).depth ≤ 40 ∧ (PyData.list (ls.map lineD)).weight ≤ 2 ^ 20 := by
  refine ⟨niceAll_iff.mpr fun x hx => ?_, ?_, ?_⟩
  · obtain ⟨l, hl, rfl⟩ := List.mem_map.mp hx
    exact nice_line (h l hl)
  · show PyData.depthAll _ + 1 ≤ 40
    have := depth_lines ls
    omega
  · show PyData.weightAll _ ≤ 2 ^ 20
    have := weight_lines h
    omega
theorem bitsD_facts {n s : Nat} (n7 : n ≤ 7) : nice (bitsD n s) = true ∧ (bitsD n s).depth ≤ 1 ∧ (bitsD n s).weight ≤ 14 := by
  refine ⟨niceAll_iff.mpr fun x hx => ?_, ?_, ?_⟩
  · obtain ⟨i, hi, rfl⟩ := List.mem_map.mp hx
    obtain ⟨b, hb, rfl⟩ := List.mem_map.mp hi
    have := bitsS_lt n s b hb
    exact decide_eq_true (by show (b : Int).natAbs < 10 ^ 12; omega)
  · show PyData.depthAll _ + 1 ≤ 1
    rw [depth_ints]
    decide
  · show PyData.weightAll _ ≤ 14
    have := weight_ints (k := 1) (ns := (bitsS n s).map Int.ofNat) fun i hi => by
      obtain ⟨b, hb, rfl⟩ := List.mem_map.mp hi
      have := bitsS_lt n s b hb
      show (b : Int).natAbs < 2 ^ 1
      omega
    rw [List.length_map, bitsS_len] at this
    omega
def bitsLD (n : Nat) (hs : List (Nat × Nat × Nat)) : PyData := .list ((places n hs).map (bitsD n))
theorem dp_bitsL {K : PySem.W.Frag} {H : Hp} {n : Nat} : ∀ {us : List V} {ss : List Nat}, Paired (BitsV K n H) us ss → DpAll K H us (ss.map (bitsD n))
  | _, _, .nil => .nil
  | _, _, .cons h t => .cons (dp_bits h) (dp_bitsL t)
theorem depth_bitsL {n : Nat} (n7 : n ≤ 7) : ∀ ss : List Nat, PyData.depthAll (ss.map (bitsD n)) ≤ 1
  | [] => Nat.zero_le _
  | s :: ss => by
    show max (bitsD n s).depth (PyData.depthAll (ss.map (bitsD n))) ≤ 1
    exact Nat.max_le.mpr ⟨(bitsD_facts n7).2.1, depth_bitsL n7 ss⟩
theorem weight_bitsL {n : Nat} (n7 : n ≤ 7) : ∀ ss : List Nat, PyData.weightAll (ss.map (bitsD n)) ≤ 15 * ss.length
  | [] => Nat.zero_le _
  | s :: ss => by
    have w := (bitsD_facts (s := s) n7).2.2
    have i := weight_bitsL n7 ss
    show (bitsD n s).weight + 1 + PyData.weightAll (ss.map (bitsD n)) ≤ 15 * (ss.length + 1)
    omega
theorem bitsLD_facts {n : Nat} (n7 : n ≤ 7) (hs : List (Nat × Nat × Nat)) : nice (bitsLD n hs) = true ∧ (bitsLD n hs).depth ≤ 40 ∧ (bitsLD n hs).weight ≤ 2 ^ 20 := by
  refine ⟨niceAll_iff.mpr fun x hx => ?_, ?_, ?_⟩
  · obtain ⟨s, _, rfl⟩ := List.mem_map.mp hx
    exact (bitsD_facts n7).1
  · show PyData.depthAll _ + 1 ≤ 40
    have := depth_bitsL n7 (places n hs)
    omega
  · show PyData.weightAll _ ≤ 2 ^ 20
    have := weight_bitsL n7 (places n hs)
    have l : (places n hs).length ≤ 2 ^ n := by
      have := List.length_filter_le (inF n hs) (List.range (2 ^ n))
      rwa [List.length_range] at this
    have p : 2 ^ n ≤ 2 ^ 7 := Nat.pow_le_pow_right (by decide) n7
    omega
theorem all_inF {ls : List (Nat × Nat)} (hl : ∀ l ∈ ls, l.1 < 2 ^ 63 ∧ l.2 < 2) {hs : List (Nat × Nat × Nat)} (q : lflat ls = some hs) {n x : Nat} (hx : BitsOf (2 ^ n) x (fun s => ls.all fun l => holdsB l (fS n s))) : BitsOf (2 ^ n) x (inF n hs) := by
  have F := lflat_flat ls hl hs q
  refine hx.congr fun s _ => ?_
  unfold inF
  rw [Bool.eq_iff_iff, all_canon F, (lflat_sol ls hl).1 hs q, List.all_eq_true]
  exact ⟨fun h l hl => holdsB_iff.mp (h l hl), fun h l hl => holdsB_iff.mpr (h l hl)⟩
theorem cnt_flat {n x : Nat} {hs : List (Nat × Nat × Nat)} (F : FlatOk hs) (hlt : ∀ e ∈ hs, e.2.1 < 2 ^ n) (hx : BitsOf (2 ^ n) x (inF n hs)) : cntB (2 ^ n) x = 2 ^ (n - hs.length) := by
  rw [bits_cnt hx]
  have h := places_len F hlt
  have e := Nat.pow_sub_mul_pow 2 (heads_le F hlt)
  exact Nat.eq_of_mul_eq_mul_right (Nat.two_pow_pos hs.length) (h.trans e.symm)
theorem listed_flat {n x : Nat} {hs : List (Nat × Nat × Nat)} (hx : BitsOf (2 ^ n) x (inF n hs)) : ((List.range (2 ^ n)).filter fun s => x.testBit s) = places n hs :=
  List.filter_congr fun s hs => hx.2 s (List.mem_range.mp hs)
theorem told_bits {n x s : Nat} {hs : List (Nat × Nat × Nat)} (F : FlatOk hs) (hx : BitsOf (2 ^ n) x (inF n hs)) (h : s < 2 ^ n) {bs : List Nat} (e : bs = bitsS n s) : ((canon hs).all fun l => decide (wsum l.1 bs % 2 = l.2)) = x.testBit s := by
  rw [hx.2 s h]
  unfold inF
  rw [Bool.eq_iff_iff, List.all_eq_true, List.all_eq_true]
  have key : ∀ l ∈ canon hs, (decide (wsum l.1 bs % 2 = l.2) = true ↔ holdsB l (fS n s) = true) := fun l hl => by
    have l2 := (canon_lt F l hl).2
    have w := wsum_par l.1 bs (by rw [e]; exact bitsS_lt n s)
    have ef : (fun u => decide (bs.getD u 0 = 1)) = fS n s := by
      rw [e]
      exact funext (bitsS_getD n s)
    rw [ef] at w
    rw [decide_eq_true_eq, holdsB_iff]
    unfold holdsL at w ⊢
    rw [w]
    have w2 : wsum l.1 bs % 2 < 2 := Nat.mod_lt _ (by decide)
    show _ ↔ decide (wsum l.1 bs % 2 = 1) = decide (l.2 = 1)
    rw [decide_eq_decide]
    omega
  exact ⟨fun h l hl => (key l hl).mp (h l hl), fun h l hl => (key l hl).mpr (h l hl)⟩
theorem bit_test (x s : Nat) : decide (V.int (Builtin.bitAnd ((x : Int) / 2 ^ ((s : Int)).toNat) 1) = V.int 1) = x.testBit s := by
  have e1 : (x : Int) / 2 ^ ((s : Int)).toNat = ((x / 2 ^ s : Nat) : Int) := by
    rw [Int.toNat_natCast]
    norm_cast
  rw [e1, show (1 : Int) = ((1 : Nat) : Int) from rfl, and_nat, Nat.and_one_is_mod, Nat.testBit_eq_decide_div_mod_eq, decide_eq_decide]
  exact ⟨fun h => by have := V.int.inj h; omega, fun h => by rw [h]⟩
theorem paired_reverse {α β : Type} {R : α → β → Prop} : ∀ {xs : List α} {ys : List β}, PySem.Paired R xs ys → PySem.Paired R xs.reverse ys.reverse
  | _, _, .nil => .nil
  | _, _, .cons h t => by
    rw [List.reverse_cons, List.reverse_cons]
    exact PySem.Paired.snoc (paired_reverse t) h
theorem rev_flat {hs : List (Nat × Nat × Nat)} (F : FlatOk hs) : ∃ gs, lflat (canon hs).reverse = some gs ∧ canon gs = canon hs := by
  have hl : ∀ l ∈ (canon hs).reverse, l.1 < 2 ^ 63 ∧ l.2 < 2 := fun l h => canon_lt F l (List.mem_reverse.mp h)
  obtain ⟨a1, a2⟩ := lflat_sol _ hl
  have on : ∀ f, sol hs f ↔ ∀ l ∈ (canon hs).reverse, holdsL l f := fun f => by
    rw [← all_canon F f, List.all_eq_true]
    exact ⟨fun h l hl => holdsB_iff.mp (h l (List.mem_reverse.mp hl)), fun h l hl => holdsB_iff.mpr (h l (List.mem_reverse.mpr hl))⟩
  cases q : lflat (canon hs).reverse with
  | none =>
    obtain ⟨f, s⟩ := flat_has F
    exact absurd ((on f).mp s) (a2 q f)
  | some gs =>
    exact ⟨gs, rfl, canon_uniq (lflat_flat _ hl gs q) F fun f => (a1 gs q f).trans (on f).symm⟩
end Es
set_option Elab.async false
set_option linter.all false
set_option maxRecDepth 100000
set_option maxHeartbeats 4000000
namespace Es
open PySem PySem.Spec PyProof.Rows L2
def add3 (f g h : Nat → Bool) : Nat → Bool := fun u => f u ^^ g u ^^ h u
theorem par_add3 (m : Nat) (f g h : Nat → Bool) : par m (add3 f g h) = (par m f ^^ par m g ^^ par m h) := by
  unfold par parL
  have go : ∀ (L : List Nat) (a b c : Bool), L.foldl (fun b u => b ^^ (m.testBit u && add3 f g h u)) (a ^^ b ^^ c) =
      (L.foldl (fun b u => b ^^ (m.testBit u && f u)) a ^^ L.foldl (fun b u => b ^^ (m.testBit u && g u)) b ^^ L.foldl (fun b u => b ^^ (m.testBit u && h u)) c) := by
    intro L
    induction L with
    | nil => intro a b c; rfl
    | cons u L ih =>
      intro a b c
      rw [List.foldl_cons, List.foldl_cons, List.foldl_cons, List.foldl_cons, ← ih]
      congr 1
      unfold add3
      cases m.testBit u <;> cases a <;> cases b <;> cases c <;> cases f u <;> cases g u <;> cases h u <;> rfl
  exact go _ false false false
theorem sol_add3 {hs : List (Nat × Nat × Nat)} {f g h : Nat → Bool} (a : sol hs f) (b : sol hs g) (c : sol hs h) : sol hs (add3 f g h) := fun e he => by
  have a := a e he
  have b := b e he
  have c := c e he
  unfold holdsL at *
  rw [par_add3, a, b, c]
  cases decide (e.2.2 = 1) <;> rfl
def bitB (b : Nat) : Bool := decide (b = 1)
theorem wh_self {hs : List (Nat × Nat × Nat)} {m : Nat} (no : ∀ h ∈ hs.map (·.1), m.testBit h = false) (x : Nat) : wh hs (m, x) = (m, x) := by
  have go : ∀ (L : List (Nat × Nat × Nat)) (r : Nat × Nat), (∀ e ∈ L, m.testBit e.1 = false) → L.foldl (wh1 m) r = r := by
    intro L
    induction L with
    | nil => intro r _; rfl
    | cons e L ih =>
      intro r h
      rw [List.foldl_cons]
      have : wh1 m r e = r := by
        unfold wh1
        rw [if_neg (by rw [h e List.mem_cons_self]; exact Bool.false_ne_true)]
      rw [this]
      exact ih r fun x hx => h x (List.mem_cons_of_mem _ hx)
  exact go hs _ fun e he => no e.1 (List.mem_map.mpr ⟨e, he, rfl⟩)
def Bare_ (hs : List (Nat × Nat × Nat)) (m : Nat) : Prop := m ≠ 0 ∧ m < 2 ^ 63 ∧ ∀ h ∈ hs.map (·.1), m.testBit h = false
def Cuts (hs gs ks : List (Nat × Nat × Nat)) (m : Nat) : Prop := ∃ b : Bool, (∀ f, sol hs f → par m f = b → sol gs f) ∧ (∀ f, sol hs f → par m f = !b → sol ks f)
theorem bare_free {hs : List (Nat × Nat × Nat)} (F : FlatOk hs) {m : Nat} (B : Bare_ hs m) (b : Bool) : ∃ f, sol hs f ∧ par m f = b := by
  obtain ⟨f, s, h⟩ := flat_free F (l := (m, if b = true then 1 else 0)) B.2.1 (by show (if b = true then 1 else 0) < 2; cases b <;> decide) (by rw [wh_self B.2.2]; exact B.1)
  refine ⟨f, s, ?_⟩
  unfold holdsL at h
  rw [h]
  cases b <;> rfl
theorem red_bare {hs : List (Nat × Nat × Nat)} (F : FlatOk hs) {l : Nat × Nat} (h63 : l.1 < 2 ^ 63) (nz : (wh hs (l.1, 0)).1 ≠ 0) : Bare_ hs (wh hs (l.1, 0)).1 := by
  obtain ⟨a, b⟩ := wh_heads F.red (p := (l.1, 0)) h63
  exact ⟨nz, a, b⟩
theorem red_par {hs : List (Nat × Nat × Nat)} (F : FlatOk hs) (m : Nat) {f : Nat → Bool} (s : sol hs f) : par (wh hs (m, 0)).1 f = (par m f ^^ bitB (wh hs (m, 0)).2) := by
  have h := wh_holds F.bit s (l := (m, 0)) (by show 0 < 2; decide)
  have r2 := wh_bit F.bit (m, 0) (by show 0 < 2; decide)
  unfold holdsL at h
  unfold bitB
  have z : decide (((m, 0) : Nat × Nat).2 = 1) = false := rfl
  rw [z] at h
  have e : (wh hs (m, 0)).2 = 0 ∨ (wh hs (m, 0)).2 = 1 := by omega
  have h : par (wh hs (m, 0)).1 f = decide ((wh hs (m, 0)).2 = 1) ↔ par m f = false := h
  cases p : par m f <;> rw [p] at h
  · rw [h.mpr rfl, Bool.false_xor]
  · cases q : par (wh hs (m, 0)).1 f <;> rw [q] at h <;> rcases e with e | e <;> rw [e] at h ⊢ <;> simp at h ⊢
theorem cut_one {hs gs ks : List (Nat × Nat × Nat)} (F : FlatOk hs) (FG : FlatOk gs) {m k : Nat} (Bm : Bare_ hs m) (Bk : Bare_ hs k) {b : Bool} (h1 : ∀ f, sol hs f → par m f = !b → ¬ sol gs f) (hk : Cuts hs gs ks k) : k = m := by
  obtain ⟨c, c1, _⟩ := hk
  have on : ∀ f, sol hs f → par k f = c → par m f = b := fun f s e => by
    cases q : par m f <;> cases b <;> first | rfl | exact absurd (c1 f s e) (h1 f s q)
  refine Classical.byContradiction fun ne => ?_
  have Bx : Bare_ hs (m ^^^ k) := by
    refine ⟨fun z => ne ?_, xor_lt Bm.2.1 Bk.2.1, fun h hh => by rw [Nat.testBit_xor, Bm.2.2 h hh, Bk.2.2 h hh]; rfl⟩
    have := congrArg (· ^^^ k) z
    simp only [xx, Nat.zero_xor] at this
    exact this.symm
  obtain ⟨f0, s0, p0⟩ := bare_free F Bk c
  obtain ⟨f1, s1, p1⟩ := bare_free F Bx (b ^^ !c)
  obtain ⟨f2, s2, p2⟩ := bare_free F Bm (!b)
  have q0 := on f0 s0 p0
  rw [par_xor] at p1
  have q2 : par k f2 = !c := by
    cases z : par k f2 <;> cases c <;> first | rfl | (have := on f2 s2 z; rw [p2] at this; cases b <;> cases this)
  cases z : (par k f1 == c) with
  | true =>
    have z := beq_iff_eq.mp z
    have := on f1 s1 z
    rw [this, z] at p1
    cases b <;> cases c <;> cases p1
  | false =>
    have z1 : par k f1 = !c := by
      cases y : par k f1 <;> rw [y] at z <;> cases c <;> first | rfl | cases z
    have z2 : par m f1 = b := by
      rw [z1] at p1
      cases y : par m f1 <;> rw [y] at p1 <;> cases b <;> cases c <;> first | rfl | cases p1
    have e1 : par k (add3 f0 f1 f2) = c := by
      rw [par_add3, p0, z1, q2]
      cases c <;> rfl
    have e2 := on _ (sol_add3 s0 s1 s2) e1
    rw [par_add3, q0, z2, p2] at e2
    cases b <;> cases e2
def halfO (hs : List (Nat × Nat × Nat)) (m b : Nat) : List (Nat × Nat × Nat) := (lflat (canon hs ++ [(m, b)])).getD []
def partsB (hs : List (Nat × Nat × Nat)) (m : Nat) (gs ks : List (Nat × Nat × Nat)) : Bool :=
  if liesB (halfO hs m 0) (canon gs) = true then liesB (halfO hs m 1) (canon ks) else (liesB (halfO hs m 1) (canon gs) && liesB (halfO hs m 0) (canon ks))
def cutO (hs gs ks : List (Nat × Nat × Nat)) : Option Nat :=
  if liesB hs (canon gs) = true ∨ liesB hs (canon ks) = true then some 0 else
  match (canon gs).find? (fun l => decide ((wh hs (l.1, 0)).1 ≠ 0)) with
  | some l => if partsB hs (wh hs (l.1, 0)).1 gs ks = true then some (wh hs (l.1, 0)).1 else none
  | none => none
theorem half63 {hs : List (Nat × Nat × Nat)} (F : FlatOk hs) {m b : Nat} (hm : m < 2 ^ 63) (hb : b < 2) (nz : (wh hs (m, 0)).1 ≠ 0) :
    lflat (canon hs ++ [(m, b)]) = some (halfO hs m b) ∧ FlatOk (halfO hs m b) ∧ ∀ f, sol (halfO hs m b) f ↔ sol hs f ∧ par m f = bitB b := by
  have lt1 := canon_snoc_lt F hm hb
  have both : ∀ f, (∀ l ∈ canon hs ++ [(m, b)], holdsL l f) ↔ sol hs f ∧ holdsL (m, b) f := fun f => by
    rw [← all_canon F f, List.all_eq_true]
    constructor
    · exact fun h => ⟨fun l hl => holdsB_iff.mpr (h l (List.mem_append_left _ hl)), h _ (List.mem_append_right _ List.mem_cons_self)⟩
    · rintro ⟨h1, h2⟩ l hl
      rcases List.mem_append.mp hl with hl | hl
      · exact holdsB_iff.mp (h1 l hl)
      · have hl : l = (m, b) := by simpa using hl
        rw [hl]; exact h2
  obtain ⟨a1, a2⟩ := lflat_sol (canon hs ++ [(m, b)]) lt1
  unfold halfO
  cases q : lflat (canon hs ++ [(m, b)]) with
  | none =>
    obtain ⟨f, s1, s2⟩ := flat_free F (l := (m, b)) hm hb (by rw [← (wh_row hs m 0 b).1]; exact nz)
    exact absurd ((both f).mpr ⟨s1, s2⟩) (a2 q f)
  | some gs => exact ⟨rfl, lflat_flat _ lt1 gs q, fun f => (a1 gs q f).trans (both f)⟩
theorem parts_iff {hs gs ks : List (Nat × Nat × Nat)} (F : FlatOk hs) (FG : FlatOk gs) (FK : FlatOk ks) {m : Nat} (hm : m < 2 ^ 63) (nz : (wh hs (m, 0)).1 ≠ 0) (ng : ¬ liesB hs (canon gs) = true) : partsB hs m gs ks = true ↔ Cuts hs gs ks m := by
  obtain ⟨_, F0, z0⟩ := half63 F hm (b := 0) (by decide) nz
  obtain ⟨_, F1, z1⟩ := half63 F hm (b := 1) (by decide) nz
  rw [lies_iff F FG] at ng
  have b0 : bitB 0 = false := rfl
  have b1 : bitB 1 = true := rfl
  have l0 : ∀ {xs : List (Nat × Nat × Nat)}, FlatOk xs → (liesB (halfO hs m 0) (canon xs) = true ↔ ∀ f, sol hs f → par m f = false → sol xs f) := fun X => by
    rw [lies_iff F0 X]
    exact ⟨fun h f s e => h f ((z0 f).mpr ⟨s, e⟩), fun h f s => h f ((z0 f).mp s).1 ((z0 f).mp s).2⟩
  have l1 : ∀ {xs : List (Nat × Nat × Nat)}, FlatOk xs → (liesB (halfO hs m 1) (canon xs) = true ↔ ∀ f, sol hs f → par m f = true → sol xs f) := fun X => by
    rw [lies_iff F1 X]
    exact ⟨fun h f s e => h f ((z1 f).mpr ⟨s, e⟩), fun h f s => h f ((z1 f).mp s).1 ((z1 f).mp s).2⟩
  unfold partsB
  by_cases c : liesB (halfO hs m 0) (canon gs) = true
  · rw [if_pos c, l1 FK]
    have c := (l0 FG).mp c
    constructor
    · exact fun h => ⟨false, c, h⟩
    · rintro ⟨b, h1, h2⟩
      cases b with
      | false => exact h2
      | true =>
        refine absurd (fun f s => ?_) ng
        cases q : par m f with
        | false => exact c f s q
        | true => exact h1 f s q
  · rw [if_neg c, Bool.and_eq_true, l1 FG, l0 FK]
    rw [l0 FG] at c
    constructor
    · exact fun h => ⟨true, h.1, h.2⟩
    · rintro ⟨b, h1, h2⟩
      cases b with
      | false => exact absurd h1 c
      | true => exact ⟨h1, h2⟩
theorem cut_none {hs gs ks : List (Nat × Nat × Nat)} (F : FlatOk hs) (FG : FlatOk gs) (FK : FlatOk ks) (no : ¬ ∀ f, sol hs f → sol gs f ∨ sol ks f) : cutO hs gs ks = none := by
  have n1 : ¬ liesB hs (canon gs) = true := fun z => no fun f s => .inl ((lies_iff F FG).mp z f s)
  have n2 : ¬ liesB hs (canon ks) = true := fun z => no fun f s => .inr ((lies_iff F FK).mp z f s)
  unfold cutO
  rw [if_neg fun z => z.elim n1 n2]
  cases q : (canon gs).find? (fun l => decide ((wh hs (l.1, 0)).1 ≠ 0)) with
  | none => rfl
  | some l =>
    dsimp only
    have nz : (wh hs (l.1, 0)).1 ≠ 0 := by
      have q2 := List.find?_some q
      exact of_decide_eq_true q2
    have l63 := (canon_lt FG l (List.mem_of_find?_eq_some q)).1
    have B := red_bare F l63 nz
    refine if_neg fun z => no fun f s => ?_
    obtain ⟨b, h1, h2⟩ := (parts_iff F FG FK B.2.1 (by rw [wh_self B.2.2]; exact B.1) n1).mp z
    by_cases e : par (wh hs (l.1, 0)).1 f = b
    · exact .inl (h1 f s e)
    · refine .inr (h2 f s ?_)
      cases b <;> cases y : par (wh hs (l.1, 0)).1 f <;> rw [y] at e <;> first | rfl | exact absurd rfl e
theorem cut_some {hs gs ks : List (Nat × Nat × Nat)} (F : FlatOk hs) (FG : FlatOk gs) (FK : FlatOk ks) (n1 : ¬ liesB hs (canon gs) = true) (n2 : ¬ liesB hs (canon ks) = true) (all : ∀ f, sol hs f → sol gs f ∨ sol ks f) :
    ∃ m, cutO hs gs ks = some m ∧ Bare_ hs m ∧ Cuts hs gs ks m ∧ ∀ k, Bare_ hs k → Cuts hs gs ks k → k = m := by
  have g1 := fun z => n1 ((lies_iff F FG).mpr z)
  have g2 := fun z => n2 ((lies_iff F FK).mpr z)
  unfold cutO
  rw [if_neg fun z => z.elim n1 n2]
  have line_par : ∀ l ∈ canon gs, ∀ f, sol hs f → (holdsL l f ↔ par (wh hs (l.1, 0)).1 f = (bitB l.2 ^^ bitB (wh hs (l.1, 0)).2)) := fun l hl f s => by
    rw [red_par F l.1 s]
    unfold holdsL bitB
    cases par l.1 f <;> cases decide (l.2 = 1) <;> cases decide ((wh hs (l.1, 0)).2 = 1) <;> simp
  cases q : (canon gs).find? (fun l => decide ((wh hs (l.1, 0)).1 ≠ 0)) with
  | none =>
    exfalso
    rw [List.find?_eq_none] at q
    have told : ∀ l ∈ canon gs, (wh hs (l.1, 0)).1 = 0 := fun l hl => by
      have := q l hl
      simpa using this
    refine g2 fun f s => ?_
    rcases all f s with h | h
    · refine absurd (fun g sg => (all_canon FG g).mp (List.all_eq_true.mpr fun l hl => holdsB_iff.mpr ?_)) g1
      have hf := holdsB_iff.mp (List.all_eq_true.mp ((all_canon FG f).mpr h) l hl)
      rw [line_par l hl f s, told l hl, par_zero] at hf
      rw [line_par l hl g sg, told l hl, par_zero]
      exact hf
    · exact h
  | some l =>
    dsimp only
    have hl := List.mem_of_find?_eq_some q
    have nz : (wh hs (l.1, 0)).1 ≠ 0 := by
      have q2 := List.find?_some q
      exact of_decide_eq_true q2
    have B := red_bare F (canon_lt FG l hl).1 nz
    have lp := line_par l hl
    generalize (bitB l.2 ^^ bitB (wh hs (l.1, 0)).2) = b at lp
    generalize (wh hs (l.1, 0)).1 = m at B lp
    have out : ∀ f, sol hs f → par m f = !b → ¬ sol gs f := fun f s e z => by
      have := (lp f s).mp (holdsB_iff.mp (List.all_eq_true.mp ((all_canon FG f).mpr z) l hl))
      rw [e] at this
      cases b <;> cases this
    have inK : ∀ f, sol hs f → par m f = !b → sol ks f := fun f s e => (all f s).resolve_left (out f s e)
    have C : Cuts hs gs ks m := by
      refine ⟨b, fun f s e => ?_, inK⟩
      refine Classical.byContradiction fun ng => ?_
      have fk := (all f s).resolve_left ng
      obtain ⟨g, sg, eg⟩ := bare_free F B (!b)
      refine g2 fun h sh => ?_
      rcases all h sh with hg | hk
      · have eh : par m h = b := by
          cases y : par m h <;> cases b <;> first | rfl | exact absurd hg (out h sh y)
        have e3 : par m (add3 f h g) = !b := by
          rw [par_add3, e, eh, eg]
          cases b <;> rfl
        have k3 := inK _ (sol_add3 s sh sg) e3
        have k4 := sol_add3 fk (inK g sg eg) k3
        have : add3 f g (add3 f h g) = h := by
          funext u
          unfold add3
          cases f u <;> cases g u <;> cases h u <;> rfl
        rwa [this] at k4
      · exact hk
    refine ⟨m, if_pos ((parts_iff F FG FK B.2.1 (by rw [wh_self B.2.2]; exact B.1) n1).mpr C), B, C, fun k Bk Ck => cut_one F FG B Bk out Ck⟩
theorem find_at {α : Type} {p : α → Bool} : ∀ {L : List α} {i : Nat} {l : α}, (∀ x ∈ L.take i, p x = false) → L[i]? = some l → p l = true → L.find? p = some l
  | [], _, _, _, h, _ => by cases h
  | x :: L, 0, l, _, h, e => by
    have h : x = l := Option.some.inj h
    subst h
    exact List.find?_cons_of_pos e
  | x :: L, i + 1, l, a, h, e => by
    rw [List.find?_cons_of_neg (by rw [a x List.mem_cons_self]; exact Bool.false_ne_true)]
    exact find_at (fun y hy => a y (List.mem_cons_of_mem _ hy)) (by simpa using h) e
theorem cut_at {hs gs ks : List (Nat × Nat × Nat)} (n1 : ¬ liesB hs (canon gs) = true) (n2 : ¬ liesB hs (canon ks) = true) {i : Nat} {l : Nat × Nat} (a : ∀ k ∈ (canon gs).take i, (wh hs (k.1, 0)).1 = 0) (h : (canon gs)[i]? = some l) (nz : (wh hs (l.1, 0)).1 ≠ 0) :
    cutO hs gs ks = if partsB hs (wh hs (l.1, 0)).1 gs ks = true then some (wh hs (l.1, 0)).1 else none := by
  unfold cutO
  rw [if_neg fun z => z.elim n1 n2, find_at (p := fun l => decide ((wh hs (l.1, 0)).1 ≠ 0)) (fun k hk => by rw [decide_eq_false]; exact fun z => z (a k hk)) h (decide_eq_true nz)]
theorem cut_end {hs gs ks : List (Nat × Nat × Nat)} (n1 : ¬ liesB hs (canon gs) = true) (n2 : ¬ liesB hs (canon ks) = true) (a : ∀ k ∈ canon gs, (wh hs (k.1, 0)).1 = 0) : cutO hs gs ks = none := by
  unfold cutO
  rw [if_neg fun z => z.elim n1 n2, List.find?_eq_none.mpr fun k hk => by rw [decide_eq_false (fun z => z (a k hk))]; exact Bool.false_ne_true]
theorem snocN {P : List Nat → Prop} (h0 : P []) (h1 : ∀ us u, P us → P (us ++ [u])) (us : List Nat) : P us := by
  have go : ∀ n, ∀ us : List Nat, us.length = n → P us := by
    intro n
    induction n with
    | zero =>
      intro us h
      rw [List.length_eq_zero_iff.mp h]
      exact h0
    | succ n ih =>
      intro us h
      have ne : us ≠ [] := fun z => by rw [z] at h; cases h
      rw [← List.dropLast_concat_getLast ne]
      exact h1 _ _ (ih _ (by rw [List.length_dropLast, h]; rfl))
  exact go _ us rfl
def mks (us : List Nat) : List Nat := us.foldl (fun ms u => ms ++ ms.map fun m => m ||| 2 ^ u) [0]
theorem mks_snoc (us : List Nat) (u : Nat) : mks (us ++ [u]) = mks us ++ (mks us).map fun m => m ||| 2 ^ u := by
  unfold mks
  rw [List.foldl_append]
  rfl
theorem mks_take {us : List Nat} {i u : Nat} (h : us[i]? = some u) : mks (us.take (i + 1)) = mks (us.take i) ++ (mks (us.take i)).map fun m => m ||| 2 ^ u := by
  obtain ⟨hi, e⟩ := List.getElem?_eq_some_iff.mp h
  rw [List.take_succ_eq_append_getElem hi, e, mks_snoc]
theorem mks_mem (us : List Nat) : ∀ m, m ∈ mks us ↔ ∀ j, m.testBit j = true → j ∈ us := by
  refine snocN (P := fun us => ∀ m, m ∈ mks us ↔ ∀ j, m.testBit j = true → j ∈ us) (fun m => ?_) (fun us u ih m => ?_) us
  · unfold mks
    rw [List.foldl_nil, List.mem_singleton]
    constructor
    · intro h j hj
      rw [h, Nat.zero_testBit] at hj
      cases hj
    · intro h
      refine Nat.eq_of_testBit_eq fun j => ?_
      rw [Nat.zero_testBit]
      cases q : m.testBit j with
      | false => rfl
      | true => cases h j q
  · rw [mks_snoc, List.mem_append]
    constructor
    · rintro (h | h) j hj
      · exact List.mem_append_left _ ((ih m).mp h j hj)
      · obtain ⟨x, hx, rfl⟩ := List.mem_map.mp h
        rw [Nat.testBit_or, Bool.or_eq_true] at hj
        rcases hj with hj | hj
        · exact List.mem_append_left _ ((ih x).mp hx j hj)
        · by_cases z : u = j
          · rw [z]
            exact List.mem_append_right _ List.mem_cons_self
          · rw [Nat.testBit_two_pow_of_ne z] at hj
            cases hj
    · intro h
      cases q : m.testBit u with
      | false =>
        refine .inl ((ih m).mpr fun j hj => ?_)
        rcases List.mem_append.mp (h j hj) with z | z
        · exact z
        · rw [List.mem_singleton.mp z, q] at hj
          cases hj
      | true =>
        refine .inr (List.mem_map.mpr ⟨m ^^^ 2 ^ u, (ih _).mpr fun j hj => ?_, ?_⟩)
        · rw [bit_toggle] at hj
          by_cases z : j = u
          · rw [if_pos z, z, q] at hj
            cases hj
          · rw [if_neg z] at hj
            rcases List.mem_append.mp (h j hj) with y | y
            · exact y
            · exact absurd (List.mem_singleton.mp y) z
        · refine Nat.eq_of_testBit_eq fun j => ?_
          rw [Nat.testBit_or, bit_toggle]
          by_cases z : j = u
          · rw [if_pos z, z, q, Nat.testBit_two_pow_self]
            rfl
          · rw [if_neg z, Nat.testBit_two_pow_of_ne (Ne.symm z), Bool.or_false]
theorem mks_nodup (us : List Nat) : us.Nodup → (mks us).Nodup := by
  refine snocN (P := fun us => us.Nodup → (mks us).Nodup) (fun _ => ?_) (fun us u ih nd => ?_) us
  · exact List.pairwise_singleton _ _
  · obtain ⟨n1, n2, n3⟩ := List.nodup_append.mp nd
    have uno : ∀ x ∈ mks us, x.testBit u = false := fun x hx => by
      cases q : x.testBit u with
      | false => rfl
      | true => exact absurd rfl (n3 u ((mks_mem us x).mp hx u q) u List.mem_cons_self)
    rw [mks_snoc]
    refine List.nodup_append.mpr ⟨ih n1, ?_, fun x hx y hy => ?_⟩
    · refine List.pairwise_map.mpr ((ih n1).imp_of_mem fun {x y} hx hy ne z => ne ?_)
      refine Nat.eq_of_testBit_eq fun j => ?_
      have z := congrArg (fun m => m.testBit j) z
      simp only [Nat.testBit_or] at z
      by_cases e : j = u
      · rw [e, uno x hx, uno y hy]
      · rw [Nat.testBit_two_pow_of_ne (Ne.symm e), Bool.or_false, Bool.or_false] at z
        exact z
    · obtain ⟨z, _, rfl⟩ := List.mem_map.mp hy
      intro e
      have := uno x hx
      rw [e, Nat.testBit_or, Nat.testBit_two_pow_self, Bool.or_true] at this
      cases this
theorem mks_len (us : List Nat) : (mks us).length = 2 ^ us.length := by
  refine snocN (P := fun us => (mks us).length = 2 ^ us.length) rfl (fun us u ih => ?_) us
  rw [mks_snoc, List.length_append, List.length_map, ih, List.length_append, List.length_singleton, Nat.pow_succ]
  omega
theorem mks_head (us : List Nat) : ∃ t, mks us = 0 :: t := by
  refine snocN (P := fun us => ∃ t, mks us = 0 :: t) ⟨[], rfl⟩ (fun us u ih => ?_) us
  obtain ⟨t, e⟩ := ih
  exact ⟨t ++ (0 :: t).map fun m => m ||| 2 ^ u, by rw [mks_snoc, e]; rfl⟩
def sp_parts (K : PySem.W.Frag) : Sp := fun vs H Q _ => ∃ (r v u x : V) (m : Nat) (hs gs ks : List (Nat × Nat × Nat)), vs = [r, v, u, x] ∧ SumV K H r m ∧ m < 2 ^ 63 ∧ FlatV K H v hs ∧ FlatOk hs ∧ FlatV K H u gs ∧ FlatOk gs ∧ FlatV K H x ks ∧ FlatOk ks ∧ (wh hs (m, 0)).1 ≠ 0 ∧
  ∀ H', Same H H' → Q (.bl (partsB hs m gs ks)) H'
def sp_cut_by (K : PySem.W.Frag) : Sp := fun vs H Q _ => ∃ (v u x : V) (hs gs ks : List (Nat × Nat × Nat)), vs = [v, u, x] ∧ FlatV K H v hs ∧ FlatOk hs ∧ FlatV K H u gs ∧ FlatOk gs ∧ FlatV K H x ks ∧ FlatOk ks ∧
  ∀ H' w, Same H H' → OptSum K H' w (cutO hs gs ks) → Q w H'
def sp_lies_in_both (K : PySem.W.Frag) : Sp := fun vs H Q _ => ∃ (v u x : V) (hs gs ks : List (Nat × Nat × Nat)), vs = [v, u, x] ∧ FlatV K H v hs ∧ FlatOk hs ∧ FlatV K H u gs ∧ FlatOk gs ∧ FlatV K H x ks ∧ FlatOk ks ∧
  ∀ H', Same H H' → Q (.bl (cutO hs gs ks).isSome) H'
def sp_law_new_row (K : PySem.W.Frag) : Sp := fun vs H Q _ => ∃ (b c : Addr) (n : Nat) (v : V) (hs : List (Nat × Nat × Nat)), vs = [.ref b, .int (n : Int), v] ∧ BagAt K H b c ∧ n ≤ 62 ∧ FlatV K H v hs ∧ FlatOk hs ∧ (∀ e ∈ hs, e.2.1 < 2 ^ n) ∧ hs.length < n ∧
  ∀ H' u m, But b H H' → BagAt K H' b c → SumV K H' u m → m < 2 ^ n → (wh hs (m, 0)).1 ≠ 0 → Q u H'
def Besides (n : Nat) (hs : List (Nat × Nat × Nat)) (ms : List Nat) : Prop := ms.Nodup ∧ ∀ m, m ∈ ms ↔ m < 2 ^ n ∧ m ≠ 0 ∧ ∀ h ∈ hs.map (·.1), m.testBit h = false
def freeU (n : Nat) (hs : List (Nat × Nat × Nat)) : List Nat := (List.range n).filter fun u => decide (u ∉ srt (hs.map (·.1)))
theorem besides_mks {n : Nat} {hs : List (Nat × Nat × Nat)} (h63 : ∀ h ∈ hs.map (·.1), h < 63) {t : List Nat} (e : mks (freeU n hs) = 0 :: t) : Besides n hs t := by
  have nd : (freeU n hs).Nodup := List.Pairwise.filter _ (List.nodup_range)
  have nm := mks_nodup _ nd
  rw [e] at nm
  obtain ⟨n0, nt⟩ := List.nodup_cons.mp nm
  refine ⟨nt, fun m => ?_⟩
  have mm := mks_mem (freeU n hs) m
  rw [e, List.mem_cons] at mm
  have inF : ∀ j, j ∈ freeU n hs ↔ j < n ∧ j ∉ hs.map (·.1) := fun j => by
    unfold freeU
    rw [List.mem_filter, List.mem_range, decide_eq_true_eq, mem_srt]
    constructor
    · exact fun h => ⟨h.1, fun z => h.2 ⟨h63 j z, z⟩⟩
    · exact fun h => ⟨h.1, fun z => h.2 z.2⟩
  constructor
  · intro h
    have bits := mm.mp (.inr h)
    refine ⟨Nat.lt_pow_two_of_testBit _ fun j hj => ?_, fun z => n0 (z ▸ h), fun g hg => ?_⟩
    · cases q : m.testBit j with
      | false => rfl
      | true => exact absurd ((inF j).mp (bits j q)).1 (by omega)
    · cases q : m.testBit g with
      | false => rfl
      | true => exact absurd hg ((inF g).mp (bits g q)).2
  · rintro ⟨h1, h2, h3⟩
    refine (mm.mpr fun j hj => (inF j).mpr ⟨?_, fun z => ?_⟩).resolve_left h2
    · refine Nat.lt_of_not_le fun z => ?_
      rw [Nat.testBit_lt_two_pow (Nat.lt_of_lt_of_le h1 (Nat.pow_le_pow_right (by decide) z))] at hj
      cases hj
    · rw [h3 j z] at hj
      cases hj
def sp_law_rows_beside (K : PySem.W.Frag) : Sp := fun vs H Q _ => ∃ (n : Nat) (v : V) (hs : List (Nat × Nat × Nat)), vs = [.int (n : Int), v] ∧ n ≤ 7 ∧ FlatV K H v hs ∧ FlatOk hs ∧ (∀ e ∈ hs, e.2.1 < 2 ^ n) ∧
  ∀ H' a us ms, Same H H' → H a = none → H' a = some (.lst us) → Paired (SumV K H') us ms → Besides n hs ms → Q (.ref a) H'
theorem BitsOf.or {N x y : Nat} {p q : Nat → Bool} (hx : BitsOf N x p) (hy : BitsOf N y q) : BitsOf N (x ||| y) (fun s => p s || q s) :=
  ⟨Nat.or_lt_two_pow hx.1 hy.1, fun s hs => by rw [Nat.testBit_or, hx.2 s hs, hy.2 s hs]⟩
theorem BitsOf.le {N x y : Nat} {p q : Nat → Bool} (hx : BitsOf N x p) (hy : BitsOf N y q) : x &&& y = x ↔ ∀ s, s < N → p s = true → q s = true := by
  constructor
  · intro e s hs h
    have a := hx.2 s hs
    rw [← e, Nat.testBit_and, hx.2 s hs, hy.2 s hs, h, Bool.true_and] at a
    exact a
  · intro h
    refine (hx.and hy).uniq (hx.congr fun s hs => ?_)
    cases q' : p s with
    | false => rfl
    | true => rw [h s hs q']; rfl
abbrev FB (n : Nat) (hs : List (Nat × Nat × Nat)) (x : Nat) : Prop := BitsOf (2 ^ n) x (fun s => (canon hs).all fun l => holdsB l (fS n s))
theorem cover_iff {hs gs ks : List (Nat × Nat × Nat)} (F : FlatOk hs) (FG : FlatOk gs) (FK : FlatOk ks) {n x y z : Nat} (lh : ∀ e ∈ hs, e.2.1 < 2 ^ n) (lg : ∀ e ∈ gs, e.2.1 < 2 ^ n) (lk : ∀ e ∈ ks, e.2.1 < 2 ^ n)
    (hx : FB n hs x) (hy : FB n gs y) (hz : FB n ks z) : x &&& (y ||| z) = x ↔ ∀ f, sol hs f → sol gs f ∨ sol ks f := by
  rw [hx.le (hy.or hz)]
  constructor
  · intro h f sf
    obtain ⟨k, k1, k2⟩ := holds_num (n := n) f
    have h1 := h k k1 ((all_canon F _).mpr fun e he => (k2 e.2 (lh e he)).mpr (sf e he))
    rw [Bool.or_eq_true, all_canon FG, all_canon FK] at h1
    exact h1.imp (fun q e he => (k2 e.2 (lg e he)).mp (q e he)) (fun q e he => (k2 e.2 (lk e he)).mp (q e he))
  · intro h s _ hs'
    rw [all_canon F] at hs'
    rw [Bool.or_eq_true, all_canon FG, all_canon FK]
    exact h _ hs'
noncomputable def cutsC (hs gs ks : List (Nat × Nat × Nat)) (m : Nat) : Bool := @decide (Cuts hs gs ks m) (Classical.propDecidable _)
theorem cutsC_iff {hs gs ks : List (Nat × Nat × Nat)} {m : Nat} : cutsC hs gs ks m = true ↔ Cuts hs gs ks m := by
  unfold cutsC
  exact @decide_eq_true_iff (Cuts hs gs ks m) (Classical.propDecidable _)
theorem half_le {hs gs : List (Nat × Nat × Nat)} (F : FlatOk hs) (FG : FlatOk gs) {n m b x y w : Nat} (lh : ∀ e ∈ hs, e.2.1 < 2 ^ n) (lg : ∀ e ∈ gs, e.2.1 < 2 ^ n) (hm : m < 2 ^ n)
    (hx : FB n hs x) (hy : FB n gs y) (hw : BitsOf (2 ^ n) w (fun s => holdsB (m, b) (fS n s))) : (x &&& w) &&& y = (x &&& w) ↔ ∀ f, sol hs f → par m f = bitB b → sol gs f := by
  rw [(hx.and hw).le hy]
  constructor
  · intro h f sf e
    obtain ⟨k, k1, k2⟩ := holds_num (n := n) f
    have h1 := h k k1 (by
      rw [Bool.and_eq_true, all_canon F, holdsB_iff]
      exact ⟨fun e he => (k2 e.2 (lh e he)).mpr (sf e he), (k2 (m, b) hm).mpr e⟩)
    rw [all_canon FG] at h1
    exact fun e he => (k2 e.2 (lg e he)).mp (h1 e he)
  · intro h s _ hs'
    rw [Bool.and_eq_true, all_canon F, holdsB_iff] at hs'
    rw [all_canon FG]
    exact h _ hs'.1 hs'.2
theorem cut_lt {hs gs ks : List (Nat × Nat × Nat)} (FG : FlatOk gs) {n m : Nat} (lh : ∀ e ∈ hs, e.2.1 < 2 ^ n) (lg : ∀ e ∈ gs, e.2.1 < 2 ^ n) (e : cutO hs gs ks = some m) : m < 2 ^ n := by
  unfold cutO at e
  split at e
  · rw [← Option.some.inj e]
    exact Nat.two_pow_pos n
  · split at e
    · rename_i l q
      split at e
      · rw [← Option.some.inj e]
        exact wh_lt lh _ (canon_below FG lg l (List.mem_of_find?_eq_some q)).1
      · cases e
    · cases e
theorem ones_ne {k : Nat} (h : k ≤ 2) : ∃ d, (∀ {K : PySem.W.Frag} {H : Hp} {a : Addr}, H a = some (.lst (List.replicate k (V.int 1))) → Dp K H (.ref a) d) ∧ SeqAt.shaped d = true ∧ (!PyData.eqv d (.list [])) = decide (0 < k) := by
  have h : k = 0 ∨ k = 1 ∨ k = 2 := by omega
  rcases h with rfl | rfl | rfl
  · exact ⟨.list [], fun e => .lst (.inl (.inl e)) .nil, rfl, rfl⟩
  · exact ⟨.list [.int 1], fun e => .lst (.inl (.inl e)) (.cons (.int 1) .nil), rfl, rfl⟩
  · exact ⟨.list [.int 1, .int 1], fun e => .lst (.inl (.inl e)) (.cons (.int 1) (.cons (.int 1) .nil)), rfl, rfl⟩
def FlatN (K : PySem.W.Frag) (H : Hp) (n : Nat) (v : V) (hs : List (Nat × Nat × Nat)) : Prop := FlatV K H v hs ∧ FlatOk hs ∧ ∀ e ∈ hs, e.2.1 < 2 ^ n
theorem FlatN.same {K : PySem.W.Frag} {H H' : Hp} {n : Nat} {v : V} {hs : List (Nat × Nat × Nat)} (s : Same H H') (h : FlatN K H n v hs) : FlatN K H' n v hs := ⟨h.1.same s, h.2⟩
def Trip (K : PySem.W.Frag) (H : Hp) (n : Nat) (y : V) : Prop := ∃ tp v u x hs gs ks, y = .ref tp ∧ SqT K H tp [v, u, x] ∧ FlatN K H n v hs ∧ FlatN K H n u gs ∧ FlatN K H n x ks
theorem Trip.same {K : PySem.W.Frag} {H H' : Hp} {n : Nat} {y : V} (s : Same H H') (h : Trip K H n y) : Trip K H' n y := by
  obtain ⟨tp, v, u, x, hs, gs, ks, e, h1, h2, h3, h4⟩ := h
  exact ⟨tp, v, u, x, hs, gs, ks, e, sqT_same s h1, h2.same s, h3.same s, h4.same s⟩
def tripD (hs gs ks : List (Nat × Nat × Nat)) : PyData := .tuple [flatD hs, flatD gs, flatD ks]
theorem tripD_facts {hs gs ks : List (Nat × Nat × Nat)} (F : FlatOk hs) (FG : FlatOk gs) (FK : FlatOk ks) : nice (tripD hs gs ks) = true ∧ (tripD hs gs ks).depth ≤ 40 ∧ (tripD hs gs ks).weight ≤ 2 ^ 20 := by
  obtain ⟨a1, a2, a3⟩ := flatD_facts F
  obtain ⟨b1, b2, b3⟩ := flatD_facts FG
  obtain ⟨c1, c2, c3⟩ := flatD_facts FK
  refine ⟨?_, ?_, ?_⟩
  · refine niceAll_iff.mpr fun x hx => ?_
    rcases List.mem_cons.mp hx with rfl | hx
    · exact a1
    · rcases List.mem_cons.mp hx with rfl | hx
      · exact b1
      · rcases List.mem_cons.mp hx with rfl | hx
        · exact c1
        · cases hx
  · show max (flatD hs).depth (max (flatD gs).depth (max (flatD ks).depth 0)) + 1 ≤ 40
    have := Nat.max_le.mpr ⟨a2, Nat.max_le.mpr ⟨b2, Nat.max_le.mpr ⟨c2, Nat.zero_le 3⟩⟩⟩
    omega
  · show (flatD hs).weight + 1 + ((flatD gs).weight + 1 + ((flatD ks).weight + 1 + 0)) ≤ 2 ^ 20
    omega
def cutD (o : Option Nat) : PyData := .list [optD o, .bool o.isSome]
theorem cutD_facts (o : Option Nat) : nice (cutD o) = true ∧ (cutD o).depth ≤ 40 ∧ (cutD o).weight ≤ 2 ^ 20 := by
  refine ⟨niceAll_iff.mpr fun x hx => ?_, ?_, ?_⟩
  · rcases List.mem_cons.mp hx with rfl | hx
    · exact nice_optD o
    · rcases List.mem_cons.mp hx with rfl | hx
      · rfl
      · cases hx
  · show max (optD o).depth (max (PyData.depth (.bool o.isSome)) 0) + 1 ≤ 40
    have : (optD o).depth ≤ 1 := by
      cases o with
      | none => exact Nat.zero_le _
      | some m => rw [show optD (some m) = sumD m from rfl, depth_sumD]; exact Nat.le_refl _
    have h2 : PyData.depth (.bool o.isSome) = 0 := rfl
    rw [h2]
    have := Nat.max_le.mpr ⟨this, (show max 0 0 ≤ 1 by decide)⟩
    omega
  · show (optD o).weight + 1 + (PyData.weight (.bool o.isSome) + 1 + 0) ≤ 2 ^ 20
    have w1 : (optD o).weight ≤ 10000 := by
      cases o with
      | none => decide
      | some m => exact Nat.le_trans (weight_sumD m) (by decide)
    have w2 : PyData.weight (.bool o.isSome) ≤ 10 := by
      generalize o.isSome = z
      cases z <;> decide
    omega
theorem optSum_same {K : PySem.W.Frag} {H H' : Hp} {v : V} {o : Option Nat} (s : Same H H') (h : OptSum K H v o) : OptSum K H' v o := by
  cases o with
  | none => exact h
  | some m => exact SumV.same s h
theorem opt_some {K : PySem.W.Frag} {H : Hp} {v : V} {o : Option Nat} (h : OptSum K H v o) : (!decide (v = .non)) = o.isSome := by
  cases o with
  | none =>
    have h : v = .non := h
    subst h
    rfl
  | some m =>
    obtain ⟨a, rfl, _⟩ := h
    rfl
theorem filter_one {ms : List Nat} (nd : ms.Nodup) {p : Nat → Bool} {m : Nat} (hm : m ∈ ms) (h : ∀ k ∈ ms, p k = true ↔ k = m) : ms.filter p = [m] := by
  induction ms with
  | nil => cases hm
  | cons k ms ih =>
    obtain ⟨n1, n2⟩ := List.nodup_cons.mp nd
    by_cases z : k = m
    · subst z
      rw [List.filter_cons_of_pos ((h k List.mem_cons_self).mpr rfl), List.filter_eq_nil_iff.mpr fun x hx q => n1 ?_]
      rw [← (h x (List.mem_cons_of_mem _ hx)).mp q]
      exact hx
    · rw [List.filter_cons_of_neg fun q => z ((h k List.mem_cons_self).mp q)]
      exact ih n2 ((List.mem_cons.mp hm).resolve_left fun q => z q.symm) fun x hx => h x (List.mem_cons_of_mem _ hx)
def sp_law_cut_due (K : PySem.W.Frag) : Sp := fun vs H Q _ => ∃ (r v u x : V) (n : Nat) (hs gs ks : List (Nat × Nat × Nat)), vs = [r, v, u, x] ∧ RoomV K H r n ∧ n ≤ 7 ∧ FlatV K H v hs ∧ FlatOk hs ∧ (∀ e ∈ hs, e.2.1 < 2 ^ n) ∧ FlatV K H u gs ∧ FlatOk gs ∧ (∀ e ∈ gs, e.2.1 < 2 ^ n) ∧ FlatV K H x ks ∧ FlatOk ks ∧ (∀ e ∈ ks, e.2.1 < 2 ^ n) ∧
  ∀ H' w, Same H H' → OptSum K H' w (cutO hs gs ks) → Q w H'
theorem lflat_len (ls : List (Nat × Nat)) : (∀ l ∈ ls, l.1 < 2 ^ 63 ∧ l.2 < 2) → ∀ hs, lflat ls = some hs → hs.length ≤ ls.length := by
  refine snoc_ind (P := fun ls => (∀ l ∈ ls, l.1 < 2 ^ 63 ∧ l.2 < 2) → ∀ hs, lflat ls = some hs → hs.length ≤ ls.length) (fun _ hs e => ?_) (fun ls l ih h hs e => ?_) ls
  · have e := Option.some.inj e
    rw [← e]
    exact Nat.le_refl _
  · have h' : ∀ x ∈ ls, x.1 < 2 ^ 63 ∧ x.2 < 2 := fun x hx => h x (List.mem_append_left _ hx)
    rw [lflat_snoc] at e
    cases q : lflat ls with
    | none => rw [q] at e; cases e
    | some gs =>
      rw [q] at e
      have e : lstep gs l = some hs := e
      have ig := ih h' gs q
      rw [lstep_eq (lflat_flat ls h' gs q).red] at e
      rw [List.length_append, List.length_singleton]
      split at e
      · split at e
        · cases e
        · rw [← Option.some.inj e]
          omega
      · rw [← Option.some.inj e]
        unfold lput
        rw [List.length_append, List.length_map, List.length_singleton]
        omega
def sp_law_drawn_flatL (K : PySem.W.Frag) : Sp := fun vs H Q _ => ∃ (b c : Addr) (n k : Nat), vs = [.ref b, .int (n : Int), .int (k : Int)] ∧ BagAt K H b c ∧ n ≤ 62 ∧ k ≤ 100 ∧
  ∀ H' v hs, But b H H' → BagAt K H' b c → FlatV K H' v hs → FlatOk hs → (∀ e ∈ hs, e.2.1 < 2 ^ n) → hs.length ≤ k → Q v H'
def sp_law_three_flats (K : PySem.W.Frag) : Sp := fun vs H Q _ => ∃ (b c : Addr) (n : Nat), vs = [.ref b, .int (n : Int)] ∧ BagAt K H b c ∧ 1 ≤ n ∧ n ≤ 62 ∧
  ∀ H' p v u x hs gs ks, But b H H' → BagAt K H' b c → SqT K H' p [v, u, x] → FlatV K H' v hs → FlatOk hs → (∀ e ∈ hs, e.2.1 < 2 ^ n) → FlatV K H' u gs → FlatOk gs → (∀ e ∈ gs, e.2.1 < 2 ^ n) → FlatV K H' x ks → FlatOk ks → (∀ e ∈ ks, e.2.1 < 2 ^ n) → Q (.ref p) H'
end Es
set_option Elab.async false
set_option linter.all false
set_option maxRecDepth 100000
set_option maxHeartbeats 4000000
namespace Es
open PySem PySem.Spec PyProof.Rows L2
inductive Tree where
  | leaf (i : Nat)
  | ask (m : Nat) (l r : Tree)
def Tree.ht : Tree → Nat
  | .leaf _ => 0
  | .ask _ l r => 1 + max l.ht r.ht
def Tree.sz : Tree → Nat
  | .leaf _ => 1
  | .ask _ l r => l.sz + r.sz
def Tree.ok : Tree → Prop
  | .leaf i => i < 2 ^ 30
  | .ask _ l r => l.ok ∧ r.ok
def Tree.lvs : Tree → List (Nat × Nat) → List (Nat × List (Nat × Nat))
  | .leaf i, ls => [(i, ls)]
  | .ask m l r, ls => l.lvs (ls ++ [(m, 0)]) ++ r.lvs (ls ++ [(m, 1)])
theorem Tree.sz_pos : ∀ t : Tree, 0 < t.sz
  | .leaf _ => Nat.one_pos
  | .ask _ l r => Nat.add_pos_left l.sz_pos _
theorem Tree.lvs_len : ∀ (t : Tree) (ls : List (Nat × Nat)), (t.lvs ls).length = t.sz
  | .leaf _, _ => rfl
  | .ask m l r, ls => by
    rw [Tree.lvs, List.length_append, l.lvs_len, r.lvs_len]
    rfl
theorem Tree.lvs_le : ∀ (t : Tree) (ls : List (Nat × Nat)), ∀ e ∈ t.lvs ls, e.2.length ≤ ls.length + t.ht
  | .leaf _, ls => fun e he => by
    rw [Tree.lvs, List.mem_singleton] at he
    rw [he]
    exact Nat.le_add_right _ _
  | .ask m l r, ls => fun e he => by
    rw [Tree.lvs, List.mem_append] at he
    rw [Tree.ht]
    rcases he with he | he
    · have := l.lvs_le _ e he
      rw [List.length_append, List.length_singleton] at this
      omega
    · have := r.lvs_le _ e he
      rw [List.length_append, List.length_singleton] at this
      omega
theorem Tree.lvs_ht : ∀ (t : Tree) (ls : List (Nat × Nat)), ∃ e ∈ t.lvs ls, e.2.length = ls.length + t.ht
  | .leaf i, ls => ⟨(i, ls), by rw [Tree.lvs]; exact List.mem_singleton.mpr rfl, rfl⟩
  | .ask m l r, ls => by
    rw [Tree.ht, Tree.lvs]
    by_cases h : r.ht ≤ l.ht
    · obtain ⟨e, he, q⟩ := l.lvs_ht (ls ++ [(m, 0)])
      refine ⟨e, List.mem_append_left _ he, ?_⟩
      rw [q, List.length_append, List.length_singleton, Nat.max_eq_left h]
      omega
    · obtain ⟨e, he, q⟩ := r.lvs_ht (ls ++ [(m, 1)])
      refine ⟨e, List.mem_append_right _ he, ?_⟩
      rw [q, List.length_append, List.length_singleton, Nat.max_eq_right (by omega)]
      omega
theorem Tree.lvs_bits : ∀ (t : Tree) (ls : List (Nat × Nat)), t.ok → (∀ l ∈ ls, l.2 < 2) → ∀ e ∈ t.lvs ls, e.1 < 2 ^ 30 ∧ ∀ l ∈ e.2, l.2 < 2
  | .leaf i, ls, o, h => fun e he => by
    rw [Tree.lvs, List.mem_singleton] at he
    rw [he]
    exact ⟨o, h⟩
  | .ask m l r, ls, o, h => fun e he => by
    rw [Tree.lvs, List.mem_append] at he
    have more : ∀ b : Nat, b < 2 → ∀ x ∈ ls ++ [(m, b)], x.2 < 2 := fun b hb x hx => by
      rcases List.mem_append.mp hx with hx | hx
      · exact h x hx
      · rw [List.mem_singleton.mp hx]
        exact hb
    rcases he with he | he
    · exact l.lvs_bits _ o.1 (more 0 (by decide)) e he
    · exact r.lvs_bits _ o.2 (more 1 (by decide)) e he
def endV : V := .str (Str.ofString "end")
def askV : V := .str (Str.ofString "ask")
def TreeV (K : PySem.W.Frag) (H : Hp) : V → Tree → Prop
  | v, .leaf i => ∃ a, v = .ref a ∧ SqT K H a [endV, .int (i : Int)]
  | v, .ask m l r => ∃ a w v0 v1, v = .ref a ∧ SqT K H a [askV, w, v0, v1] ∧ SumV K H w m ∧ TreeV K H v0 l ∧ TreeV K H v1 r
theorem TreeV.same {K : PySem.W.Frag} {H H' : Hp} (s : Same H H') : ∀ {v : V} {t : Tree}, TreeV K H v t → TreeV K H' v t
  | v, .leaf i, ⟨a, e, h⟩ => ⟨a, e, sqT_same s h⟩
  | v, .ask m l r, ⟨a, w, v0, v1, e, h, hw, h0, h1⟩ => ⟨a, w, v0, v1, e, sqT_same s h, hw.same s, TreeV.same s h0, TreeV.same s h1⟩
theorem TreeV.but {K : PySem.W.Frag} {H H' : Hp} {b : Addr} {ys : List V} (hb : H b = some (.lst ys)) (s : But b H H') : ∀ {v : V} {t : Tree}, TreeV K H v t → TreeV K H' v t
  | v, .leaf i, ⟨a, e, h⟩ => ⟨a, e, sqT_but hb s h⟩
  | v, .ask m l r, ⟨a, w, v0, v1, e, h, hw, h0, h1⟩ => ⟨a, w, v0, v1, e, sqT_but hb s h, hw.but hb s, TreeV.but hb s h0, TreeV.but hb s h1⟩
theorem TreeV.bag {K : PySem.W.Frag} {H H' : Hp} {b c : Addr} {v : V} {t : Tree} (B : BagAt K H b c) (s : But b H H') (h : TreeV K H v t) : TreeV K H' v t := by
  obtain ⟨y, e⟩ := B.lst
  exact TreeV.but e s h
def treeD : Tree → PyData
  | .leaf i => .tuple [.str (Str.ofString "end"), .int (i : Int)]
  | .ask m l r => .tuple [.str (Str.ofString "ask"), sumD m, treeD l, treeD r]
theorem dp_tree {K : PySem.W.Frag} {H : Hp} : ∀ {v : V} {t : Tree}, TreeV K H v t → Dp K H v (treeD t)
  | v, .leaf i, ⟨a, e, h⟩ => by
    subst e
    exact .tup h (.cons (.str _) (.cons (.int _) .nil))
  | v, .ask m l r, ⟨a, w, v0, v1, e, h, hw, h0, h1⟩ => by
    subst e
    exact .tup h (.cons (.str _) (.cons (dp_sum hw) (.cons (dp_tree h0) (.cons (dp_tree h1) .nil))))
theorem nice_end : nice (.str (Str.ofString "end")) = true := by decide +kernel
theorem nice_ask : nice (.str (Str.ofString "ask")) = true := by decide +kernel
theorem nice_nat {i : Nat} (h : i < 2 ^ 30) : nice (.int (i : Int)) = true := by
  refine decide_eq_true ?_
  show i < 10 ^ 12
  exact Nat.lt_trans h (by decide)
theorem treeD_nice : ∀ {t : Tree}, t.ok → nice (treeD t) = true
  | .leaf i, o => niceAll_iff.mpr fun x hx => by
    rcases List.mem_cons.mp hx with rfl | hx
    · exact nice_end
    · rw [List.mem_singleton.mp hx]
      exact nice_nat o
  | .ask m l r, o => niceAll_iff.mpr fun x hx => by
    rcases List.mem_cons.mp hx with rfl | hx
    · exact nice_ask
    · rcases List.mem_cons.mp hx with rfl | hx
      · exact nice_sumD m
      · rcases List.mem_cons.mp hx with rfl | hx
        · exact treeD_nice o.1
        · rw [List.mem_singleton.mp hx]
          exact treeD_nice o.2
theorem treeD_depth : ∀ t : Tree, (treeD t).depth ≤ t.ht + 2
  | .leaf i => by
    show max 0 (max 0 0) + 1 ≤ 0 + 2
    decide
  | .ask m l r => by
    show max 0 (max (sumD m).depth (max (treeD l).depth (max (treeD r).depth 0))) + 1 ≤ (1 + max l.ht r.ht) + 2
    rw [depth_sumD]
    have a := treeD_depth l
    have b := treeD_depth r
    omega
theorem treeD_weight : ∀ t : Tree, t.ok → (treeD t).weight + 500 ≤ 1000 * t.sz
  | .leaf i, o => by
    have w : PyData.weight (.int (i : Int)) ≤ 30 := weight_int (show i < 2 ^ 30 from o)
    have e : PyData.weight (.str (Str.ofString "end")) ≤ 10 := by decide +kernel
    show PyData.weight (.str (Str.ofString "end")) + 1 + (PyData.weight (.int (i : Int)) + 1 + 0) + 500 ≤ 1000 * 1
    omega
  | .ask m l r, o => by
    have w := weight_sumD m
    have a := treeD_weight l o.1
    have b := treeD_weight r o.2
    have e : PyData.weight (.str (Str.ofString "ask")) ≤ 10 := by decide +kernel
    show PyData.weight (.str (Str.ofString "ask")) + 1 + ((sumD m).weight + 1 + ((treeD l).weight + 1 + ((treeD r).weight + 1 + 0))) + 500 ≤ 1000 * (l.sz + r.sz)
    omega
def EntV (K : PySem.W.Frag) (H : Hp) (v : V) (e : Nat × List (Nat × Nat)) : Prop := ∃ a b us, v = .ref a ∧ SqT K H a [.int (e.1 : Int), .ref b] ∧ SqT K H b us ∧ Paired (LineV K H) us e.2
theorem EntV.same {K : PySem.W.Frag} {H H' : Hp} {v : V} {e : Nat × List (Nat × Nat)} (s : Same H H') (h : EntV K H v e) : EntV K H' v e := by
  obtain ⟨a, b, us, q, h1, h2, h3⟩ := h
  exact ⟨a, b, us, q, sqT_same s h1, sqT_same s h2, lines_same s h3⟩
theorem EntV.but {K : PySem.W.Frag} {H H' : Hp} {c : Addr} {ys : List V} {v : V} {e : Nat × List (Nat × Nat)} (hb : H c = some (.lst ys)) (s : But c H H') (h : EntV K H v e) : EntV K H' v e := by
  obtain ⟨a, b, us, q, h1, h2, h3⟩ := h
  exact ⟨a, b, us, q, sqT_but hb s h1, sqT_but hb s h2, lines_but hb s h3⟩
def entD (e : Nat × List (Nat × Nat)) : PyData := .tuple [.int (e.1 : Int), .tuple (e.2.map lineD)]
theorem dp_ent {K : PySem.W.Frag} {H : Hp} {v : V} {e : Nat × List (Nat × Nat)} (h : EntV K H v e) : Dp K H v (entD e) := by
  obtain ⟨a, b, us, rfl, h1, h2, h3⟩ := h
  exact .tup h1 (.cons (.int _) (.cons (.tup h2 (dp_lines h3)) .nil))
theorem dp_ents {K : PySem.W.Frag} {H : Hp} : ∀ {us : List V} {es : List (Nat × List (Nat × Nat))}, Paired (EntV K H) us es → DpAll K H us (es.map entD)
  | _, _, .nil => .nil
  | _, _, .cons h t => .cons (dp_ent h) (dp_ents t)
def toldT (t : Tree) : PyData := .list [.list ((t.lvs []).map entD), .int (t.ht : Int)]
theorem entD_facts {e : Nat × List (Nat × Nat)} (h1 : e.1 < 2 ^ 30) (h2 : ∀ l ∈ e.2, l.2 < 2) (h3 : e.2.length ≤ 25) : nice (entD e) = true ∧ (entD e).depth ≤ 4 ∧ (entD e).weight ≤ 12000 := by
  refine ⟨niceAll_iff.mpr fun x hx => ?_, ?_, ?_⟩
  · rcases List.mem_cons.mp hx with rfl | hx
    · exact nice_nat h1
    · rw [List.mem_singleton.mp hx]
      refine niceAll_iff.mpr fun y hy => ?_
      obtain ⟨l, hl, rfl⟩ := List.mem_map.mp hy
      exact nice_line (h2 l hl)
  · have := depth_lines e.2
    show max 0 (max (PyData.depthAll (e.2.map lineD) + 1) 0) + 1 ≤ 4
    omega
  · have w := weight_int (i := (e.1 : Int)) (k := 30) (show e.1 < 2 ^ 30 from h1)
    have w2 := weight_lines h2
    show PyData.weight (.int (e.1 : Int)) + 1 + (PyData.weightAll (e.2.map lineD) + 1 + 0) ≤ 12000
    omega
theorem ents_weight : ∀ {es : List (Nat × List (Nat × Nat))}, (∀ e ∈ es, (entD e).weight ≤ 12000) → PyData.weightAll (es.map entD) ≤ 12001 * es.length
  | [], _ => Nat.zero_le _
  | e :: es, h => by
    have a := h e List.mem_cons_self
    have b := ents_weight fun x hx => h x (List.mem_cons_of_mem _ hx)
    show (entD e).weight + 1 + PyData.weightAll (es.map entD) ≤ _
    rw [List.length_cons]
    omega
theorem ents_depth : ∀ {es : List (Nat × List (Nat × Nat))}, (∀ e ∈ es, (entD e).depth ≤ 4) → PyData.depthAll (es.map entD) ≤ 4
  | [], _ => Nat.zero_le _
  | e :: es, h => Nat.max_le.mpr ⟨h e List.mem_cons_self, ents_depth fun x hx => h x (List.mem_cons_of_mem _ hx)⟩
theorem toldT_facts {t : Tree} (o : t.ok) (h : t.ht ≤ 25) (s : t.sz ≤ 64) : nice (toldT t) = true ∧ (toldT t).depth ≤ 40 ∧ (toldT t).weight ≤ 2 ^ 20 := by
  have all : ∀ e ∈ t.lvs [], nice (entD e) = true ∧ (entD e).depth ≤ 4 ∧ (entD e).weight ≤ 12000 := fun e he => by
    obtain ⟨b1, b2⟩ := t.lvs_bits [] o (fun l hl => by cases hl) e he
    have b3 := t.lvs_le [] e he
    rw [List.length_nil, Nat.zero_add] at b3
    exact entD_facts b1 b2 (by omega)
  refine ⟨niceAll_iff.mpr fun x hx => ?_, ?_, ?_⟩
  · rcases List.mem_cons.mp hx with rfl | hx
    · refine niceAll_iff.mpr fun y hy => ?_
      obtain ⟨e, he, rfl⟩ := List.mem_map.mp hy
      exact (all e he).1
    · rw [List.mem_singleton.mp hx]
      exact nice_nat (by omega)
  · have := ents_depth fun e he => (all e he).2.1
    show max (PyData.depthAll ((t.lvs []).map entD) + 1) (max 0 0) + 1 ≤ 40
    omega
  · have w := ents_weight fun e he => (all e he).2.2
    rw [t.lvs_len] at w
    have w2 := weight_int (i := (t.ht : Int)) (k := 6) (show t.ht < 2 ^ 6 by omega)
    show PyData.weightAll ((t.lvs []).map entD) + 1 + (PyData.weight (.int (t.ht : Int)) + 1 + 0) ≤ 2 ^ 20
    omega
def sp_height_of (K : PySem.W.Frag) : Sp := fun vs H Q _ => ∃ (v : V) (t : Tree), vs = [v] ∧ TreeV K H v t ∧ t.ht ≤ 25 ∧ t.sz ≤ 64 ∧ ∀ H', Same H H' → Q (.int (t.ht : Int)) H'
def sp_leaves_of (K : PySem.W.Frag) : Sp := fun vs H Q _ => ∃ (v : V) (t : Tree), vs = [v] ∧ TreeV K H v t ∧ t.ht ≤ 25 ∧ t.sz ≤ 64 ∧
  ∀ H' a us, Same H H' → H a = none → H' a = some (.lst us) → Paired (EntV K H') us (t.lvs []) → Q (.ref a) H'
def sp_law_mixed (K : PySem.W.Frag) : Sp := fun vs H Q _ => ∃ (b c a : Addr) (xs : List V), vs = [.ref b, .ref a] ∧ BagAt K H b c ∧ a ≠ b ∧ Sq K H a xs ∧ xs.length ≤ 1000 ∧
  ∀ H' p ys, But b H H' → BagAt K H' b c → H p = none → p ≠ b → H' p = some (.lst ys) → ys.Perm xs → Q (.ref p) H'
def sp_law_any_tree (K : PySem.W.Frag) (d : Nat) : Sp := fun vs H Q _ => ∃ (b c : Addr) (n k e : Nat), vs = [.ref b, .int (n : Int), .int (k : Int), .int (e : Int)] ∧ BagAt K H b c ∧ 0 < n ∧ n ≤ 62 ∧ 0 < k ∧ k < 2 ^ 30 ∧ e < d ∧
  ∀ H' v t, But b H H' → BagAt K H' b c → TreeV K H' v t → t.ok → t.ht ≤ e → t.sz ≤ 2 ^ e → Q v H'
def sp_law_any_treeD (K : PySem.W.Frag) : Sp := sp_law_any_tree K 8
def sp_law_tree_leaves (K : PySem.W.Frag) (d : Nat) : Sp := fun vs H Q _ => ∃ (v : V) (b : Addr) (us : List V) (t : Tree) (ls : List (Nat × Nat)), vs = [v, .ref b] ∧ TreeV K H v t ∧ SqT K H b us ∧ Paired (LineV K H) us ls ∧ t.ht < d ∧ ls.length + t.ht ≤ 40 ∧ t.sz ≤ 64 ∧
  ∀ H' a es, Same H H' → H a = none → H' a = some (.lst es) → Paired (EntV K H') es (t.lvs ls) → Q (.ref a) H'
def sp_law_tree_leavesD (K : PySem.W.Frag) : Sp := sp_law_tree_leaves K 26
def sp_law_tree_height (K : PySem.W.Frag) (d : Nat) : Sp := fun vs H Q _ => ∃ (v : V) (t : Tree), vs = [v] ∧ TreeV K H v t ∧ t.ht < d ∧ t.ht ≤ 40 ∧ ∀ H', Same H H' → Q (.int (t.ht : Int)) H'
def sp_law_tree_heightD (K : PySem.W.Frag) : Sp := sp_law_tree_height K 26
def sp_law_lopsided (K : PySem.W.Frag) : Sp := fun vs H Q _ => ∃ (b c : Addr) (n k e : Nat), vs = [.ref b, .int (n : Int), .int (k : Int), .int (e : Int)] ∧ BagAt K H b c ∧ 0 < n ∧ n ≤ 62 ∧ 0 < k ∧ k < 2 ^ 30 ∧ e ≤ 20 ∧
  ∀ H' v t, But b H H' → BagAt K H' b c → TreeV K H' v t → t.ok → t.ht ≤ e + 1 → t.sz ≤ 2 * e + 1 → Q v H'
theorem no_law_any_tree {K : PySem.W.Frag} {vs : List V} {H : Hp} {Q : VK} {E : XK} (h : sp_law_any_tree K 0 vs H Q E) : False := by
  obtain ⟨_, _, _, _, _, _, _, _, _, _, _, h, _⟩ := h
  exact Nat.not_lt_zero _ h
theorem no_law_tree_leaves {K : PySem.W.Frag} {vs : List V} {H : Hp} {Q : VK} {E : XK} (h : sp_law_tree_leaves K 0 vs H Q E) : False := by
  obtain ⟨_, _, _, _, _, _, _, _, _, h, _⟩ := h
  exact Nat.not_lt_zero _ h
theorem no_law_tree_height {K : PySem.W.Frag} {vs : List V} {H : Hp} {Q : VK} {E : XK} (h : sp_law_tree_height K 0 vs H Q E) : False := by
  obtain ⟨_, _, _, _, h, _⟩ := h
  exact Nat.not_lt_zero _ h
theorem cat_line {K : PySem.W.Frag} {H : Hp} {b p : Addr} {us : List V} {x : V} {Q : VK} (hb : SqT K H b us) (hl : us.length ≤ 100) (hp : H p = some (.tup [x])) (q : ∀ H' p', Same H H' → SqT K H' p' (us ++ [x]) → Q (.ref p') H') : rCatA K (.ref b) (.ref p) H Q := by
  refine ⟨b, p, us, [x], rfl, rfl, hb, .inl (.inl hp), Nat.le_trans (Nat.add_le_add hl (show [x].length ≤ 1 from Nat.le_refl _)) (by decide), fun e => ?_, (fun (_ : us ≠ []) (e : [x] = []) => nomatch e), fun _ _ r nr => q _ r (same_new nr) (.inl (.inl upd_same))⟩
  subst e
  exact q H p (Same.refl _) (.inl (.inl hp))
theorem ent_append {α β : Type} {R : α → β → Prop} : ∀ {xs : List α} {ys : List β} {zs : List α} {ws : List β}, PySem.Paired R xs ys → PySem.Paired R zs ws → PySem.Paired R (xs ++ zs) (ys ++ ws)
  | _, _, _, _, .nil, k => k
  | _, _, _, _, .cons h t, k => .cons h (ent_append t k)
def Tree.nd : Tree → Nat
  | .leaf _ => 1
  | .ask _ l r => 1 + (l.nd + r.nd)
abbrev Stk := List (Tree × List (Nat × Nat))
def fl (stk : Stk) : List (Nat × List (Nat × Nat)) := stk.reverse.flatMap fun p => p.1.lvs p.2
theorem fl_snoc (stk : Stk) (p : Tree × List (Nat × Nat)) : fl (stk ++ [p]) = p.1.lvs p.2 ++ fl stk := by
  unfold fl
  rw [List.reverse_append]
  rfl
def ndS (stk : Stk) : Nat := (stk.map fun p => p.1.nd).sum
theorem ndS_snoc (stk : Stk) (p : Tree × List (Nat × Nat)) : ndS (stk ++ [p]) = ndS stk + p.1.nd := by
  unfold ndS
  rw [List.map_append, List.sum_append]
  simp
theorem fl_len (stk : Stk) : stk.length ≤ (fl stk).length := by
  unfold fl
  rw [← List.length_reverse (as := stk)]
  generalize stk.reverse = s
  induction s with
  | nil => exact Nat.le_refl _
  | cons p s ih =>
    rw [List.flatMap_cons, List.length_append, List.length_cons, Tree.lvs_len]
    have := p.1.sz_pos
    omega
def StkV (K : PySem.W.Frag) (H : Hp) (v : V) (p : Tree × List (Nat × Nat)) : Prop := ∃ a w b us, v = .ref a ∧ SqT K H a [w, .ref b] ∧ TreeV K H w p.1 ∧ SqT K H b us ∧ Paired (LineV K H) us p.2
theorem StkV.same {K : PySem.W.Frag} {H H' : Hp} {v : V} {p : Tree × List (Nat × Nat)} (s : Same H H') (h : StkV K H v p) : StkV K H' v p := by
  obtain ⟨a, w, b, us, e, h1, h2, h3, h4⟩ := h
  exact ⟨a, w, b, us, e, sqT_same s h1, h2.same s, sqT_same s h3, lines_same s h4⟩
theorem StkV.but {K : PySem.W.Frag} {H H' : Hp} {c : Addr} {ys : List V} {v : V} {p : Tree × List (Nat × Nat)} (hb : H c = some (.lst ys)) (s : But c H H') (h : StkV K H v p) : StkV K H' v p := by
  obtain ⟨a, w, b, us, e, h1, h2, h3, h4⟩ := h
  exact ⟨a, w, b, us, e, sqT_but hb s h1, h2.but hb s, sqT_but hb s h3, lines_but hb s h4⟩
theorem paired_snoc_inv {α β : Type} {R : α → β → Prop} {xs : List α} {ys : List β} {y : β} (h : PySem.Paired R xs (ys ++ [y])) : ∃ zs z, xs = zs ++ [z] ∧ PySem.Paired R zs ys ∧ R z y := by
  induction ys generalizing xs with
  | nil =>
    cases h with
    | cons r t =>
      cases t
      exact ⟨[], _, rfl, .nil, r⟩
  | cons w ys ih =>
    cases h with
    | cons r t =>
      obtain ⟨zs, z, rfl, p, q⟩ := ih t
      exact ⟨_ :: zs, z, rfl, .cons r p, q⟩
theorem perm_two {α : Type} {xs : List α} {a b : α} (p : xs.Perm [a, b]) : xs = [a, b] ∨ xs = [b, a] := by
  have l := p.length_eq
  match xs, l with
  | [x, y], _ =>
    have m := p.mem_iff.mp (List.mem_cons_self (a := x) (l := [y]))
    rcases List.mem_cons.mp m with rfl | m
    · have q := List.perm_singleton.mp (List.Perm.cons_inv p)
      rw [q]
      exact .inl rfl
    · have m := List.mem_singleton.mp m
      subst m
      have q := List.perm_singleton.mp (List.Perm.cons_inv (p.trans (List.Perm.swap x a [])))
      rw [q]
      exact .inr rfl
end Es
set_option Elab.async false
set_option linter.all false
set_option maxRecDepth 100000
set_option maxHeartbeats 4000000
namespace Es
open PySem PySem.Spec PyProof.Rows L2
section
variable {P : Program} {w : World} {κ : Type} [DecidableEq κ] {G : HeapKind P w κ} {A : Around} {E : Value → Shared → Prop} {s : Shared}
variable {S : Addr} {L : List (Addr × κ)} {es : Array (Int × Value)} {n : Nat} {t : SetTable}
theorem set_of_list (M : Mute G) {l : Addr} {its : Array Value} (ks : List (Addr × κ)) {Q : Value → Shared → Prop} (hh : A.handled = none) (ht : s.heap.IsList l its) (hit : its.toList = ks.map fun e => Value.ref e.1) (hk : ∀ e ∈ ks, G.is s.heap e.2 e.1)
    (few : ks.length < 64) (hu : G.room A.in1.in1.in1)
    (hQ : ∀ (h' : Heap) (tk : Nat) L es n t, Stand G h' s.heap.objs.size L es n t → Fed ks ks.length L → (∀ b o, s.heap.get? b = some o → h'.get? b = some o) → Q (.ref s.heap.objs.size) { s with heap := h', toks := tk }) :
    wpAny (model P w) A (call (.type "set") [.ref l]) Q E s := by
  have cnt : its.size = ks.length := by
    rw [← Array.length_toList, hit, List.length_map]
  have pick : ∀ (i : Nat) (v : Value), its[i]? = some v → ∃ e, ks[i]? = some e ∧ v = .ref e.1 := fun i v hi => by
    rw [← Array.getElem?_toList, hit, List.getElem?_map] at hi
    obtain ⟨e, he, ev⟩ := Option.map_eq_some_iff.mp hi
    exact ⟨e, he, ev.symm⟩
  obtain ⟨c, tl, hmro⟩ := PySem.F.called_set.mro
  have made := PySem.F.called_set.made
  have subT := PySem.F.called_set.sub
  refine wpAny_call (codeAny_of_tree ?_)
  show wpAny _ _ (callAny (.type "set") _) _ _ _
  refine wpAny_pure ⟨Code.quiet_builtin _ (by decide +kernel), codeAny_builtin PySem.F.entry_type_call ?_⟩
  rw [Around.under_plain (weight_type_call_type "set" [.ref l] []) rfl]
  have noT := PySem.F.called_set.notType
  have can := PySem.F.called_set.canCreate
  have tc := PySem.F.typeCall_set_1 (.ref l)
  repeat (any_goals (first | assumption | wp_step))
  refine codeAny_mono (code_set_led1 (.ref l) (E := E) (Q₁ := fun v u => v = .ref s.heap.objs.size ∧ u = { s with heap := s.heap.push (Bare w) }) ⟨rfl, rfl⟩) fun r u hr => ?_
  rcases r with er | fl
  · exact hr
  cases fl with
  | ret v =>
    obtain ⟨e1, e2⟩ := hr
    subst e1 e2
    have got : (s.heap.push (Bare w)).get? s.heap.objs.size = some (Bare w) := Heap.get?_push_size _ rfl
    have ty : Shared.TypeIs { s with heap := s.heap.push (Bare w) } (.ref s.heap.objs.size) "set" := ⟨_, got, rfl⟩
    have look := PySem.F.called_set.init.lookup
    have bnd := PySem.F.called_set.init.bind (.ref s.heap.objs.size)
    repeat (any_goals (first | assumption | wp_step))
    refine codeAny_mono (codeAny_call_builtin (R := wants (fun r u => r = .none ∧ ∃ h' tk L es n t, u = { s with heap := h', toks := tk } ∧ (Stand G h' s.heap.objs.size L es n t ∧ Fed ks ks.length L) ∧ ∀ b o, s.heap.get? b = some o → h'.get? b = some o) E)
      PySem.F.called_set.init.plain PySem.F.entry_set_init (check_set_init_1 ty ?_)) fun r u hr => ?_
    · obtain ⟨o, ho, hc, nl, hd⟩ := ht
      have lt := Heap.lt_size ho
      obtain ⟨ocls, odict, odata, oslots⟩ := o
      dsimp only at hc hd
      subst hc hd
      have inT : (s.heap.push (Bare w)).IsList l its := ⟨_, Heap.get?_push_of_some _ ho, rfl, nl, rfl⟩
      have ho2 : (s.heap.push (Bare w)).get? l = some { cls := .type "list", dict := odict, data := .seq its nl, slots := oslots } := Heap.get?_push_of_some _ ho
      have sub1 := PySem.F.sub_list_set
      have sub2 := PySem.F.sub_list_frozenset
      have noD : (Value.type "list" == Value.type "dict") = false := by decide
      unfold Builtin.«set.__init__» noKeywords Builtin.Frozenset.updateFrom
      generalize walkIt : pyIter = PI
      wp_walk
      subst walkIt
      refine wpAny_pyIter_list inT ?_
      refine wpAny_bind (wpAny_runValue ?_)
      have hh3 : A.in1.in1.in1.handled = none := by simp [hh]
      have sz : (s.heap.push (Bare w)).objs.size = s.heap.objs.size + 1 := Heap.size_push ..
      have apart : l ≠ (s.heap.push (Bare w)).objs.size := by rw [sz]; exact Nat.ne_of_lt (Nat.lt_succ_of_lt lt)
      have out : s.heap.objs.size ∉ [(s.heap.push (Bare w)).objs.size, l] := by
        rw [sz]
        intro z
        rcases List.mem_cons.mp z with z | z
        · exact Nat.ne_of_lt (Nat.lt_succ_self _) z
        · exact Nat.ne_of_gt lt (List.mem_singleton.mp z)
      refine feed (G := G) M (Walks.list hh3 _ l apart its).toS s.heap.objs.size out ks cnt few pick s.heap hk (none_from _ (Nat.le_refl _)) (fun b hb => none_from b (by rw [List.mem_singleton.mp hb, sz]; exact Nat.le_succ _)) hu ?fin its.size 0 _ (Nat.zero_add _)
        ⟨⟨_, Heap.get?_push_size _ rfl, rfl, rfl⟩, inT.push _⟩ (Moved.refl (Walks.list (prog := P) (w := w) hh3 _ l apart its).toS.grefl) (fun b o e => Heap.get?_push_of_some _ (Heap.get?_push_of_some _ e)) ⟨[], #[], 0, _, bare_stand (Heap.get?_push_of_some _ got), Fed.none ks⟩
      case fin =>
        intro u L es n t mv hR g kp
        obtain ⟨h', g2, d2, tk, os2⟩ := u
        have e1 : g2 = s.gens := mv.gens
        have e2 : d2 = s.drawn := mv.drawn
        have e3 : os2 = s.os := mv.os
        subst e1 e2 e3
        rw [cnt] at g
        show wpAny _ _ _ _ _ _
        refine wpAny_pure ?_
        show wpAny _ _ (ret Value.none) _ _ _
        exact wpAny_pure ⟨rfl, h', tk, L, es, n, t, rfl, ⟨hR, g⟩, kp⟩
    · rcases r with er | fl
      · exact hr
      cases fl with
      | ret v =>
        obtain ⟨e1, h', tk, L, es, n, t, e2, ⟨hR, g⟩, kp⟩ := hr
        subst e1 e2
        repeat (any_goals (first | assumption | wp_step))
        exact hQ _ _ _ _ _ _ hR g kp
      | _ => exact hr.elim
  | _ => exact hr.elim
end
def rKeySetL (K : PySem.W.Frag) (P : Program) (w : World) : List V → Hp → VK → Prop := fun xs H Q => rKeySet K P w xs H Q ∨ ∃ (a : Addr) (ks : List (Addr × NestedKey)), xs = [.ref a] ∧ SqL K H a (ks.map fun e => V.ref e.1) ∧ (∀ e ∈ ks, KeyV K H e) ∧ ks.length < 64 ∧
  ∀ S L, H S = none → (∀ e ∈ L, e ∈ ks) → (∀ e ∈ ks, e.2 ∈ L.map (·.2)) → (L.map (·.2)).Nodup → Q (.ref S) (upd H S (KeySetO P w S L))
theorem cr_keySetL {X : Cx} (hc : X.calm = true) (hu : X.A.units + 64 < cLine) : CallR X (.type "set") (rKeySetL X.K X.prog X.w) := by
  intro pins s σ H xs us Q I r h
  rcases h with h | h
  · exact cr_keySet hc hu pins s σ H xs us Q I r h
  obtain ⟨a, ks, rfl, ht, hk, few, q⟩ := h
  rw [Vals.ref1 r]
  obtain ⟨its, rv, pl, _⟩ := I.list ht
  have new : H s.heap.objs.size = none := I.hok.fresh (Nat.le_refl _)
  refine set_of_list (G := numKind X.prog X.w) num_mute ks (I.ok.hd hc) pl.isList (by simpa using vals_keys rv) (fun e he => (KeyV.is I (hk e he)).1) few (show _ + 8 < _ by simp only [Around.in1_units]; omega) fun h' tk L es n t R g kp => ?_
  refine ⟨.ref s.heap.objs.size, _, I.laid (t' := tk) kp (Nat.le_refl _) (keySet_new R.light), rfl, q _ L new (fun e he => List.mem_of_mem_take (g.from_ e he)) (fun e he => g.have_ e ?_) R.once⟩
  rw [List.take_length]
  exact he
end Es
set_option Elab.async false
set_option linter.all false
set_option maxRecDepth 100000
set_option maxHeartbeats 4000000
namespace Es
open PySem PySem.Spec PyProof.Rows L2
theorem mul_none (l : Addr) (its : Array Value) (n : Nat) (dd : Option Addr) (sl : Array (Option Value)) (u : Tok) (ne : its.isEmpty = false) :
    Meets (Builtin.«tuple.__mul__» ⟨[.ref l, .int 0 u], []⟩) (fun _ R s => s.heap.get? l = some { cls := .type "tuple", dict := dd, data := .seq its n, slots := sl } ∧
      R (.ok (.ret (Value.ref s.heap.objs.size))) { s with heap := s.heap.push { cls := Value.type "tuple", data := Data.seq #[] }, toks := s.toks }) :=
  .of_wp fun p1 w1 A1 R1 s h => by
    obtain ⟨hz, g2, d2, t2, o2⟩ := s
    obtain ⟨at_, h⟩ := h
    have f1 := AutoSeq1.idx_int
    have c1 : (its.isEmpty || (0 : Int) == 1) = false := by rw [ne]; rfl
    wp_walk using wpAny_loadPart' at_
    repeat (first
      | (refine wpAny_ite_false (by decide) ?_; wp_walk using wpAny_loadPart' at_)
      | (refine wpAny_ite_false (decide_eq_false (by rw [c1]; exact Bool.false_ne_true)) ?_; wp_walk using wpAny_loadPart' at_)
      | (refine wpAny_ite_true (by decide) ?_; wp_walk using wpAny_loadPart' at_))
    exact ⟨_, rfl, h⟩
theorem mul_once (l : Addr) (its : Array Value) (n : Nat) (dd : Option Addr) (sl : Array (Option Value)) (u : Tok) :
    Meets (Builtin.«tuple.__mul__» ⟨[.ref l, .int 1 u], []⟩) (fun _ R s => s.heap.get? l = some { cls := .type "tuple", dict := dd, data := .seq its n, slots := sl } ∧ R (.ok (.ret (Value.ref l))) s) :=
  .of_wp fun p1 w1 A1 R1 s h => by
    obtain ⟨hz, g2, d2, t2, o2⟩ := s
    obtain ⟨at_, h⟩ := h
    have f1 := AutoSeq1.idx_int
    have c1 : (its.isEmpty || (1 : Int) == 1) = true := by cases its.isEmpty <;> rfl
    wp_walk using wpAny_loadPart' at_
    repeat (first
      | (refine wpAny_ite_false (by decide) ?_; wp_walk using wpAny_loadPart' at_)
      | (refine wpAny_ite_true (by rw [c1]) ?_; wp_walk using wpAny_loadPart' at_)
      | (refine wpAny_ite_true (by decide) ?_; wp_walk using wpAny_loadPart' at_))
    exact ⟨_, rfl, h⟩
def rRepA (K : PySem.W.Frag) : R2 := fun x y H Q => rRepT K x y H Q ∨ (∃ l xs, x = .ref l ∧ y = .int 0 ∧ SqT K H l xs ∧ xs ≠ [] ∧ ∀ p, H p = none → Q (.ref p) (upd H p (.tup []))) ∨ (∃ l xs, x = .ref l ∧ y = .int 1 ∧ SqT K H l xs ∧ Q (.ref l) H)
theorem op_repA {X : Cx} : OpR X (binaryOp .Mult) (rRepA X.K) := by
  intro pins s σ H x y v u Q I rx ry h
  rcases h with h | ⟨l, xs, rfl, rfl, hT, hne, q⟩ | ⟨l, xs, rfl, rfl, hT, q⟩
  · exact op_repT pins s σ H x y v u Q I rx ry h
  · cases rx
    obtain ⟨t, rfl⟩ := ry
    obtain ⟨its, r, ⟨⟨kc, dd, kd, sl⟩, ho, ec, n, ed⟩, _⟩ := I.tuple hT
    simp only at ec ed
    subst ec ed
    have hi : its.toArray.isEmpty = false := by
      cases its with
      | nil =>
        have := r.length
        exact absurd (List.eq_nil_of_length_eq_zero this) hne
      | cons a b => rfl
    refine wpAny_binaryOp_repeat_ref (T := "tuple") (U := "int") (by decide) ⟨_, ho, rfl⟩ (fun s' => typeIs_int s' 0 t) noFill_tuple_mul F.fills_int_mul F.slot_int_rmul repeat_tuple F.slot_int_index.lookup
      (call_meets F.slot_int_rmul (typeIs_int s 0 t) F.entry_int_rmul (F.args_int_rmul_2 _ _) (int_rmul_tuple 0 t l its.toArray n dd sl)
        ⟨ho, rfl, ⟨_, ho, rfl⟩, call_meets F.slot_tuple_mul ⟨_, ho, rfl⟩ F.entry_tuple_mul (F.args_tuple_mul_2 _ _) (mul_none l its.toArray n dd sl t hi) ⟨ho, ?_⟩⟩)
    refine ⟨.ref s.heap.objs.size, _, I.laid (t' := s.toks) (o := .tup []) (fun b ob q => Heap.get?_push_of_some _ q) (Nat.le_refl _) ?_, rfl, q _ (I.hok.fresh (Nat.le_refl _))⟩
    exact ⟨Nat.zero_le _, _, .nil, IsTup.new _ _⟩
  · cases rx
    obtain ⟨t, rfl⟩ := ry
    obtain ⟨its, r, ⟨⟨kc, dd, kd, sl⟩, ho, ec, n, ed⟩, _⟩ := I.tuple hT
    simp only at ec ed
    subst ec ed
    refine wpAny_binaryOp_repeat_ref (T := "tuple") (U := "int") (by decide) ⟨_, ho, rfl⟩ (fun s' => typeIs_int s' 1 t) noFill_tuple_mul F.fills_int_mul F.slot_int_rmul repeat_tuple F.slot_int_index.lookup
      (call_meets F.slot_int_rmul (typeIs_int s 1 t) F.entry_int_rmul (F.args_int_rmul_2 _ _) (int_rmul_tuple 1 t l its.toArray n dd sl)
        ⟨ho, rfl, ⟨_, ho, rfl⟩, call_meets F.slot_tuple_mul ⟨_, ho, rfl⟩ F.entry_tuple_mul (F.args_tuple_mul_2 _ _) (mul_once l its.toArray n dd sl t) ⟨ho, ?_⟩⟩)
    exact ⟨.ref l, H, I, rfl, q⟩
end Es
set_option Elab.async false
set_option linter.all false
set_option maxRecDepth 100000
set_option maxHeartbeats 4000000
namespace Es
open PySem PySem.Spec PyProof.Rows L2
section
variable {X : Cx}
def gCutIn (tx : TE) (ta tc : TO) : TG := fun v σ H Q => tx σ H fun x H1 => ta σ H1 fun l H2 => tc σ H2 fun u H3 => ∃ (p b : Addr) (xs ys : List V) (i j : Nat), x = .ref p ∧ v = .ref b ∧ l = some (i : Int) ∧ u = some (j : Int) ∧ H3 p = some (.lst xs) ∧ H3 b = some (.lst ys) ∧ p ≠ b ∧
  i ≤ j ∧ j ≤ xs.length ∧ xs.length + ys.length ≤ sizeLine ∧ Q σ (upd H3 p (.lst (xs.take i ++ ys ++ xs.drop j)))
theorem part_rel {v : Value} {i : Int} (h : IsPart v (some i)) : RelV (.int i) v := by
  cases h with
  | int i t => exact ⟨t, rfl⟩
theorem pg_cutIn {e : Expr} {lo hi : Option Expr} {tx : TE} {ta tc : TO} {pos p2 : Pos} (hx : PE X e tx) (hl : PO X lo ta) (hu : PO X hi tc)
    (eq : ∀ v, assign (.Subscript e (.Slice lo hi none p2) pos) X.env v = (do
      let a ← holding [v] (eval e X.env)
      let b ← holding [v, a] (eval (.Slice lo hi none p2) X.env)
      standAt pos
      holding [v, a, b] (setItem a b v)
      release [b, v, a] []) := by intro _; rfl) : PG X (.Subscript e (.Slice lo hi none p2) pos) (gCutIn tx ta tc) := by
  refine ⟨fun pins s σ H v w Q I r h => ?_⟩
  rw [eq]
  refine wpAny_bind (wpAny_holding (thn (hx.run pins s σ H _ I h) fun a s1 ⟨x, H1, I1, r1, q1⟩ => ?_))
  refine wpAny_bind (wpAny_holding (wpAny_Slice (thn (hl.run pins s1 σ H1 _ I1 q1) fun vl s2 ⟨l, H2, I2, pl, q2⟩ => thn (hu.run pins s2 σ H2 _ I2 q2) fun vu s3 ⟨u, H3, I3, pu, q3⟩ => ?_)))
  rw [evalPart_none]
  refine wpAny_pure ?_
  obtain ⟨p, b, xs, ys, i, j, rfl, rfl, rfl, rfl, hp, hb, ne, ij, jx, hz, q⟩ := q3
  cases r1
  cases r
  have I4 : Inv X pins σ H3 { s3 with heap := s3.heap.push { cls := .type "slice", data := .fields #[vl, vu, .none] } } := I3.kept (t' := s3.toks) fun b ob z => Heap.get?_push_of_some _ z
  refine wpAny_bind (wpAny_standAt (wpAny_bind (wpAny_holding ?_)))
  refine set_slice I4 hp hb ne (Heap.IsSliceOf.new ..) (part_rel pl) (part_rel pu) (by omega) (by omega) (by omega) hz fun s5 I5 => ?_
  refine wpAny_release ⟨σ, _, I5, ?_⟩
  rw [Int.toNat_natCast, Int.toNat_natCast]
  exact q
end
end Es
set_option Elab.async false
set_option linter.all false
set_option maxRecDepth 100000
set_option maxHeartbeats 4000000
namespace Es
open PySem PySem.Spec PyProof.Rows L2
def LinesV (K : PySem.W.Frag) (H : Hp) (v : V) (ls : List (Nat × Nat)) : Prop := ∃ t us, v = .ref t ∧ SqT K H t us ∧ Paired (LineV K H) us ls
theorem LinesV.same {K : PySem.W.Frag} {H H' : Hp} {v : V} {ls : List (Nat × Nat)} (s : Same H H') (h : LinesV K H v ls) : LinesV K H' v ls := by
  obtain ⟨t, us, rfl, h1, h2⟩ := h
  exact ⟨t, us, rfl, sqT_same s h1, lines_same s h2⟩
theorem LinesV.but {K : PySem.W.Frag} {H H' : Hp} {v : V} {ls : List (Nat × Nat)} {b : Addr} {ys : List V} (hb : H b = some (.lst ys)) (s : But b H H') (h : LinesV K H v ls) : LinesV K H' v ls := by
  obtain ⟨t, us, rfl, h1, h2⟩ := h
  exact ⟨t, us, rfl, sqT_but hb s h1, lines_but hb s h2⟩
theorem LinesV.bag {K : PySem.W.Frag} {H H' : Hp} {v : V} {ls : List (Nat × Nat)} {b c : Addr} (B : BagAt K H b c) (s : But b H H') (h : LinesV K H v ls) : LinesV K H' v ls := by
  obtain ⟨ys, eb⟩ := B.lst
  exact h.but eb s
def flipL (l : Nat × Nat) : Nat × Nat := (l.1, 1 - l.2)
theorem flip_flip {l : Nat × Nat} (h : l.2 < 2) : flipL (flipL l) = l := by
  unfold flipL
  obtain ⟨a, b⟩ := l
  have h : b < 2 := h
  show (a, 1 - (1 - b)) = (a, b)
  rw [show 1 - (1 - b) = b by omega]
theorem flip_lt {n : Nat} {ls : List (Nat × Nat)} (h : ∀ l ∈ ls, l.1 < 2 ^ n ∧ l.2 < 2) : ∀ l ∈ ls.map flipL, l.1 < 2 ^ n ∧ l.2 < 2 := fun l hl => by
  obtain ⟨k, hk, rfl⟩ := List.mem_map.mp hl
  exact ⟨(h k hk).1, by show 1 - k.2 < 2; omega⟩
def sp_turned (K : PySem.W.Frag) : Sp := fun vs H Q _ => ∃ (v : V) (ls : List (Nat × Nat)), vs = [v] ∧ LinesV K H v ls ∧ (∀ l ∈ ls, l.2 < 2) ∧ ls.length ≤ 1000 ∧
  ∀ H' u, Same H H' → LinesV K H' u (ls.map flipL) → Q u H'
def sp_clause_for (K : PySem.W.Frag) : Sp := sp_turned K
def sp_miss_of (K : PySem.W.Frag) : Sp := fun vs H Q _ => ∃ (v : V) (ls : List (Nat × Nat)), vs = [v] ∧ LinesV K H v ls ∧ (∀ l ∈ ls, l.1 < 2 ^ 63 ∧ l.2 < 2) ∧ ls.length ≤ 1000 ∧
  ∀ H' u, Same H H' → OptFlat K H' u (lflat (ls.map flipL)) → Q u H'
def sp_law_miss (K : PySem.W.Frag) : Sp := sp_miss_of K
def sp_law_kept (K : PySem.W.Frag) : Sp := fun vs H Q _ => ∃ (v u : V) (n : Nat) (ls : List (Nat × Nat)), vs = [v, u] ∧ RoomV K H v n ∧ n ≤ 7 ∧ LinesV K H u ls ∧ (∀ l ∈ ls, l.1 < 2 ^ n ∧ l.2 < 2) ∧
  ∀ x, BitsOf (2 ^ n) x (fun s => ls.any fun l => holdsB l (fS n s)) → Q (.int (x : Int)) H
def sp_law_any_clause (K : PySem.W.Frag) : Sp := fun vs H Q _ => ∃ (b c : Addr) (n k : Nat), vs = [.ref b, .int (n : Int), .int (k : Int)] ∧ BagAt K H b c ∧ 0 < n ∧ n ≤ 62 ∧ k ≤ 60 ∧
  ∀ H' v ls, But b H H' → BagAt K H' b c → LinesV K H' v ls → (∀ l ∈ ls, l.1 < 2 ^ n ∧ l.1 ≠ 0 ∧ l.2 < 2) → ls.length ≤ k → Q v H'
theorem nodup_len {α : Type} [DecidableEq α] : ∀ {l m : List α}, l.Nodup → (∀ x ∈ l, x ∈ m) → l.length ≤ m.length
  | [], _, _, _ => Nat.zero_le _
  | a :: l, m, nd, h => by
    have nd := List.nodup_cons.mp nd
    have am := h a List.mem_cons_self
    have i := nodup_len (l := l) (m := m.erase a) nd.2 fun x hx => (List.mem_erase_of_ne (by intro e; subst e; exact nd.1 hx)).mpr (h x (List.mem_cons_of_mem _ hx))
    rw [List.length_erase_of_mem am] at i
    have := List.length_pos_of_mem am
    rw [List.length_cons]
    omega
theorem refs_lines {K : PySem.W.Frag} {H : Hp} : ∀ {ds : List (Addr × (Nat × Nat))}, (∀ d ∈ ds, LineV K H (.ref d.1) d.2) → Paired (LineV K H) (ds.map fun d => V.ref d.1) (ds.map (·.2))
  | [], _ => .nil
  | d :: ds, h => .cons (h d List.mem_cons_self) (refs_lines fun x hx => h x (List.mem_cons_of_mem _ hx))
theorem byData_back {cs : List (Addr × (Nat × Nat))} {L L' : List (Addr × NestedKey)} (h1 : ∀ e ∈ L, e ∈ cs.map keyed) (nd : (L.map (·.2)).Nodup) (pm : L'.Perm L) :
    ∃ ds : List (Addr × (Nat × Nat)), byData L' = ds.map keyed ∧ (∀ d ∈ ds, d ∈ cs) ∧ ds.length ≤ cs.length := by
  have pb : (byData L').Perm L' := by
    unfold byData
    exact List.mergeSort_perm _ _
  obtain ⟨ds, e, hd⟩ := keyed_back (cs := cs) (byData L') fun e he => h1 e ((pb.trans pm).mem_iff.mp he)
  refine ⟨ds, e, hd, ?_⟩
  have l1 : ds.length = L.length := by
    have := (pb.trans pm).length_eq
    rwa [e, List.length_map] at this
  have l2 := nodup_len (l := L.map (·.2)) (m := (cs.map keyed).map (·.2)) nd fun x hx => by
    obtain ⟨y, hy, rfl⟩ := List.mem_map.mp hx
    exact List.mem_map.mpr ⟨y, h1 y hy, rfl⟩
  rw [List.length_map, List.length_map, List.length_map] at l2
  omega
def BookV (K : PySem.W.Frag) (H : Hp) (v : V) (n : Nat) (cs : List (List (Nat × Nat))) : Prop := ∃ t c us, v = .ref t ∧ SqT K H t [.int (n : Int), .ref c] ∧ SqT K H c us ∧ Paired (LinesV K H) us cs
theorem BookV.same {K : PySem.W.Frag} {H H' : Hp} {v : V} {n : Nat} {cs : List (List (Nat × Nat))} (s : Same H H') (h : BookV K H v n cs) : BookV K H' v n cs := by
  obtain ⟨t, c, us, rfl, h1, h2, h3⟩ := h
  exact ⟨t, c, us, rfl, sqT_same s h1, sqT_same s h2, Paired.mono2 (fun _ _ => LinesV.same s) h3⟩
theorem BookV.but {K : PySem.W.Frag} {H H' : Hp} {v : V} {n : Nat} {cs : List (List (Nat × Nat))} {b : Addr} {ys : List V} (hb : H b = some (.lst ys)) (s : But b H H') (h : BookV K H v n cs) : BookV K H' v n cs := by
  obtain ⟨t, c, us, rfl, h1, h2, h3⟩ := h
  exact ⟨t, c, us, rfl, sqT_but hb s h1, sqT_but hb s h2, Paired.mono2 (fun _ _ => LinesV.but hb s) h3⟩
def ClOk (n : Nat) (ls : List (Nat × Nat)) : Prop := (∀ l ∈ ls, l.1 < 2 ^ n ∧ l.1 ≠ 0 ∧ l.2 < 2) ∧ ls.length ≤ 60
def BkOk (n : Nat) (cs : List (List (Nat × Nat))) : Prop := (∀ ls ∈ cs, ClOk n ls) ∧ cs.length ≤ 60
def sp_law_any_book (K : PySem.W.Frag) : Sp := fun vs H Q _ => ∃ (b c : Addr) (n k : Nat), vs = [.ref b, .int (n : Int), .int (k : Int)] ∧ BagAt K H b c ∧ n ≤ 62 ∧ k ≤ 60 ∧
  ∀ H' v cs, But b H H' → BagAt K H' b c → BookV K H' v n cs → BkOk n cs → Q v H'
def sp_law_chain_book (K : PySem.W.Frag) : Sp := fun vs H Q _ => ∃ (b c : Addr) (n : Nat), vs = [.ref b, .int (n : Int)] ∧ BagAt K H b c ∧ 0 < n ∧ n ≤ 50 ∧
  ∀ H' v cs, But b H H' → BagAt K H' b c → BookV K H' v n cs → BkOk n cs → Q v H'
def sp_law_planted_book (K : PySem.W.Frag) : Sp := fun vs H Q _ => ∃ (b c : Addr) (n k : Nat), vs = [.ref b, .int (n : Int), .int (k : Int)] ∧ BagAt K H b c ∧ n ≤ 62 ∧ k ≤ 60 ∧
  ∀ H' p v u cs, But b H H' → BagAt K H' b c → H' p = some (.tup [v, u]) → BookV K H' v n cs → BkOk n cs → Q (.ref p) H'
theorem rep_one {K : PySem.W.Frag} {H : Hp} {l : Addr} {x : V} {r : Nat} {Q : VK} (h : SqT K H l [x]) (hr : r ≤ 2) (k : ∀ H' p, Same H H' → SqT K H' p (List.replicate r x) → Q (.ref p) H') : rRepA K (.ref l) (.int (r : Int)) H Q := by
  have : r = 0 ∨ r = 1 ∨ r = 2 := by omega
  rcases this with rfl | rfl | rfl
  · exact .inr (.inl ⟨l, [x], rfl, rfl, h, by simp, fun p hp => k _ p (same_new hp) (.inl (.inl upd_same))⟩)
  · exact .inr (.inr ⟨l, [x], rfl, rfl, h, k _ l (Same.refl _) h⟩)
  · exact .inl ⟨l, 2, [x], rfl, rfl, h, by simp, by decide, by decide, (by show 1 ≤ 1000; decide), fun p hp => k _ p (same_new hp) (.inl (.inl upd_same))⟩
theorem paired_rep {α β : Type} {R : α → β → Prop} {x : α} {y : β} (h : R x y) : ∀ r, PySem.Paired R (List.replicate r x) (List.replicate r y)
  | 0 => .nil
  | r + 1 => .cons h (paired_rep h r)
def sp_law_worthS (K : PySem.W.Frag) : Sp := fun vs H Q _ => ∃ (v : V) (b : Addr) (m : Nat) (bs : List Nat), vs = [v, .ref b] ∧ SumV K H v m ∧ Sq K H b (iv bs) ∧ (∀ u ∈ bts m, u < bs.length) ∧
  ∀ H', Same H H' → Q (.int ((wsum m bs % 2 : Nat) : Int)) H'
theorem worthS_mono {K : PySem.W.Frag} {vs : List V} {H : Hp} {Q : VK} {E : XK} (h : sp_law_worthL K vs H Q E) : sp_law_worthS K vs H Q E := by
  obtain ⟨v, b, m, bs, e, h1, h2, r⟩ := h
  exact ⟨v, b, m, bs, e, h1, .inl h2, r⟩
theorem paired_perm {α β : Type} {R : α → β → Prop} {xs ys : List α} (p : ys.Perm xs) : ∀ {cs : List β}, PySem.Paired R xs cs → ∃ ds, PySem.Paired R ys ds ∧ ds.Perm cs := by
  induction p with
  | nil => exact fun h => ⟨_, h, .refl _⟩
  | cons x _ ih =>
    intro cs h
    cases h with
    | cons r t =>
      obtain ⟨ds, h1, h2⟩ := ih t
      exact ⟨_, .cons r h1, h2.cons _⟩
  | swap x y l =>
    intro cs h
    cases h with
    | cons r t =>
      cases t with
      | cons r2 t2 => exact ⟨_, .cons r2 (.cons r t2), .swap _ _ _⟩
  | trans _ _ ih1 ih2 =>
    intro cs h
    obtain ⟨ds, h1, h2⟩ := ih2 h
    obtain ⟨es, h3, h4⟩ := ih1 h1
    exact ⟨es, h3, h4.trans h2⟩
def MissV (K : PySem.W.Frag) (H : Hp) (v : V) (ls : List (Nat × Nat)) : Prop := OptFlat K H v (lflat (ls.map flipL))
def sp_misses_of (K : PySem.W.Frag) : Sp := fun vs H Q _ => ∃ (v : V) (n : Nat) (cs : List (List (Nat × Nat))), vs = [v] ∧ BookV K H v n cs ∧ ((∀ ls ∈ cs, (∀ l ∈ ls, l.1 < 2 ^ n ∧ l.2 < 2) ∧ ls.length ≤ 60) ∧ cs.length ≤ 240) ∧ n ≤ 62 ∧
  ∀ H' a us, Same H H' → H a = none → H' a = some (.lst us) → Paired (MissV K H') us cs → Q (.ref a) H'
def folB (ls ks : List (Nat × Nat)) : Bool := match lflat (ls.map flipL), lflat (ks.map flipL) with
  | none, _ => true
  | some _, none => false
  | some hs, some gs => liesB hs (canon gs)
def Lines63 (ls : List (Nat × Nat)) : Prop := (∀ l ∈ ls, l.1 < 2 ^ 63 ∧ l.2 < 2) ∧ ls.length ≤ 1000
def sp_follows_from (K : PySem.W.Frag) : Sp := fun vs H Q _ => ∃ (v u : V) (ls ks : List (Nat × Nat)), vs = [v, u] ∧ LinesV K H v ls ∧ Lines63 ls ∧ LinesV K H u ks ∧ Lines63 ks ∧ ∀ H', Same H H' → Q (.bl (folB ls ks)) H'
def samB (ls ks : List (Nat × Nat)) : Bool := PyData.eqv (optFD (lflat (ls.map flipL))) (optFD (lflat (ks.map flipL)))
def sp_says_same (K : PySem.W.Frag) : Sp := fun vs H Q _ => ∃ (v u : V) (ls ks : List (Nat × Nat)), vs = [v, u] ∧ LinesV K H v ls ∧ Lines63 ls ∧ LinesV K H u ks ∧ Lines63 ks ∧ ∀ H', Same H H' → Q (.bl (samB ls ks)) H'
theorem optFlat_list {K : PySem.W.Frag} {H H' : Hp} {D : Addr} {ys : List V} {v : V} {o : Option (List (Nat × Nat × Nat))} (e : H D = some (.lst ys)) (s : But D H H') (h : OptFlat K H v o) : OptFlat K H' v o := optFlat_but e s h
def FlatsOk (n : Nat) (v : V) (hs : List (Nat × Nat × Nat)) (K : PySem.W.Frag) (H : Hp) : Prop := FlatV K H v hs ∧ FlatOk hs ∧ ∀ e ∈ hs, e.2.1 < 2 ^ n
def sp_law_cut_up (K : PySem.W.Frag) : Sp := fun vs H Q _ => ∃ (b c : Addr) (n k : Nat), vs = [.ref b, .int (n : Int), .int (k : Int)] ∧ BagAt K H b c ∧ 0 < n ∧ n ≤ 62 ∧ 0 < k ∧ k ≤ 60 ∧
  ∀ H' a us fs, But b H H' → BagAt K H' b c → H a = none → a ≠ b → H' a = some (.lst us) → Paired (FlatV K H') us fs → (∀ hs ∈ fs, (FlatOk hs ∧ ∀ e ∈ hs, e.2.1 < 2 ^ n) ∧ hs.length ≤ 6) → us.length ≤ k → 0 < us.length → Q (.ref a) H'
theorem paired_drop2 {α β : Type} {R : α → β → Prop} : ∀ {xs : List α} {ys : List β} (n : Nat), PySem.Paired R xs ys → PySem.Paired R (xs.drop n) (ys.drop n)
  | _, _, 0, h => h
  | _, _, _ + 1, .nil => .nil
  | _, _, n + 1, .cons _ t => paired_drop2 n t
theorem canon_none : canon [] = [] := by decide +kernel
theorem FlatV.but {K : PySem.W.Frag} {H H' : Hp} {b : Addr} {ys : List V} {v : V} {hs : List (Nat × Nat × Nat)} (hb : H b = some (.lst ys)) (s : But b H H') (h : FlatV K H v hs) : FlatV K H' v hs := by
  obtain ⟨t, us, rfl, h1, h2⟩ := h
  exact ⟨t, us, rfl, sqT_but hb s h1, lines_but hb s h2⟩
def sp_law_spoken (K : PySem.W.Frag) : Sp := fun vs H Q _ => ∃ (b c : Addr) (v : V) (n : Nat) (ls : List (Nat × Nat)), vs = [.ref b, v] ∧ BagAt K H b c ∧ LinesV K H v ls ∧ (∀ l ∈ ls, l.1 < 2 ^ n ∧ l.2 < 2) ∧ ls.length ≤ 12 ∧ n ≤ 62 ∧
  ∀ H' u ks, But b H H' → BagAt K H' b c → LinesV K H' u ks → (∀ l ∈ ks, l.1 < 2 ^ n ∧ l.2 < 2) → ks.length ≤ 13 → Q u H'
def ClOkW (n : Nat) (ls : List (Nat × Nat)) : Prop := (∀ l ∈ ls, l.1 < 2 ^ n ∧ l.2 < 2) ∧ ls.length ≤ 60
def BkOkW (n : Nat) (cs : List (List (Nat × Nat))) : Prop := (∀ ls ∈ cs, ClOkW n ls) ∧ cs.length ≤ 120
def sp_law_cover_book (K : PySem.W.Frag) : Sp := fun vs H Q _ => ∃ (b c : Addr) (n k : Nat), vs = [.ref b, .int (n : Int), .int (k : Int)] ∧ BagAt K H b c ∧ 0 < n ∧ n ≤ 62 ∧ 0 < k ∧ k ≤ 50 ∧
  ∀ H' v cs, But b H H' → BagAt K H' b c → BookV K H' v n cs → BkOkW n cs → 0 < cs.length → Q v H'
theorem sub_len {hs gs : List (Nat × Nat × Nat)} (FG : FlatOk gs) (h : ∀ e ∈ gs, e ∈ hs) : gs.length ≤ hs.length := nodup_len (nodup_of_map FG.red.nd) h
theorem cut_two (x y : V) (r : List V) : cutV (x :: y :: r) none (some 2) = [x, y] := by
  unfold cutV
  have h0 : HT.sIx (x :: y :: r).length 0 none = 0 := rfl
  have h2 : HT.sIx (x :: y :: r).length (x :: y :: r).length (some 2) = 2 := by
    unfold HT.sIx
    simp
  rw [h0, h2]
  rfl
theorem rg_mem {n : Nat} {v : V} (h : v ∈ rgV 0 (n : Int)) : ∃ i, i < n ∧ v = .int ((i : Nat) : Int) := by
  unfold rgV at h
  obtain ⟨i, hi, rfl⟩ := List.mem_map.mp h
  rw [List.mem_range] at hi
  refine ⟨i, by omega, ?_⟩
  congr 1
  omega
theorem paired_set {α β : Type} {R : α → β → Prop} {x : α} {y : β} (h : R x y) : ∀ {xs : List α} {ys : List β} (i : Nat), PySem.Paired R xs ys → PySem.Paired R (xs.set i x) (ys.set i y)
  | _, _, _, .nil => .nil
  | _, _, 0, .cons _ t => .cons h t
  | _, _, i + 1, .cons r t => .cons r (paired_set h i t)
theorem PairI.but {K : PySem.W.Frag} {H H' : Hp} {b : Addr} {ys : List V} (hb : H b = some (.lst ys)) (s : But b H H') {v : V} {p : Nat × Nat} (h : PairI K H v p) : PairI K H' v p := by
  obtain ⟨t, e, h⟩ := h
  exact ⟨t, e, sqT_but hb s h⟩
theorem ixN_nat {n j : Nat} (h : j < n) : ixN n (j : Int) = some j := by
  unfold ixN
  rw [if_pos (by omega), if_pos (by omega)]
  rfl
theorem BkOk.wide {n : Nat} {cs : List (List (Nat × Nat))} (h : BkOk n cs) : BkOkW n cs :=
  ⟨fun ls hl => ⟨fun l hm => ⟨((h.1 ls hl).1 l hm).1, ((h.1 ls hl).1 l hm).2.2⟩, (h.1 ls hl).2⟩, by have := h.2; omega⟩
def sp_law_beside_book (K : PySem.W.Frag) : Sp := fun vs H Q _ => ∃ (b c : Addr) (v u : V) (n m : Nat) (cs ds : List (List (Nat × Nat))), vs = [.ref b, v, u] ∧ BagAt K H b c ∧ BookV K H v n cs ∧ BkOkW n cs ∧ BookV K H u m ds ∧ BkOkW m ds ∧ n + m ≤ 60 ∧
  ∀ H' w es, But b H H' → BagAt K H' b c → BookV K H' w (n + m) es → (∀ ls ∈ es, ClOkW (n + m) ls) → es.length ≤ 240 → Q w H'
def sp_law_book (K : PySem.W.Frag) : Sp := fun vs H Q _ => ∃ (b c : Addr) (n k : Nat), vs = [.ref b, .int (n : Int), .int (k : Int)] ∧ BagAt K H b c ∧ 0 < n ∧ n ≤ 48 ∧ 0 < k ∧ k ≤ 48 ∧
  ∀ H' v m cs, But b H H' → BagAt K H' b c → m ≤ n → BookV K H' v m cs → (∀ ls ∈ cs, ClOkW m ls) → cs.length ≤ 240 → Q v H'
theorem sIx_nat {n d j : Nat} (h : j ≤ n) : HT.sIx n d (some (j : Int)) = j := by
  show (if (j : Int) < 0 then ((j : Int) + (n : Int)).toNat else min (j : Int).toNat n) = j
  rw [if_neg (by omega)]
  omega
theorem cut_to {us : List V} {j : Nat} (h : j < us.length) : cutV us none (some (j : Int)) = us.take j ∧ ¬ (HT.sIx us.length 0 none = 0 ∧ HT.sIx us.length us.length (some (j : Int)) = us.length) := by
  unfold cutV
  rw [sIx_nat (Nat.le_of_lt h)]
  have h0 : HT.sIx us.length 0 none = 0 := rfl
  rw [h0]
  exact ⟨rfl, fun z => by omega⟩
theorem cut_from {us : List V} {j : Nat} (h : j < us.length) : cutV us (some ((j + 1 : Nat) : Int)) none = us.drop (j + 1) ∧ ¬ (HT.sIx us.length 0 (some ((j + 1 : Nat) : Int)) = 0 ∧ HT.sIx us.length us.length none = us.length) := by
  unfold cutV
  rw [sIx_nat (show j + 1 ≤ us.length from h)]
  have h0 : HT.sIx us.length us.length none = us.length := rfl
  rw [h0]
  refine ⟨?_, fun z => by omega⟩
  rw [List.take_of_length_le (by rw [List.length_drop]; exact Nat.le_refl _)]
def sp_law_is_miss_right (K : PySem.W.Frag) : Sp := fun vs H Q _ => ∃ (v u : V) (n : Nat) (ls : List (Nat × Nat)), vs = [v, u] ∧ RoomV K H v n ∧ n ≤ 7 ∧ LinesV K H u ls ∧ (∀ l ∈ ls, l.1 < 2 ^ n ∧ l.2 < 2) ∧ ls.length ≤ 60 ∧
  ∀ H', Same H H' → Q (.bl true) H'
def flipE (e : Nat × Nat × Nat) : Nat × Nat × Nat := (e.1, flipL e.2)
theorem flip_flat {hs : List (Nat × Nat × Nat)} (F : FlatOk hs) : FlatOk (hs.map flipE) ∧ canon (hs.map flipE) = (canon hs).map flipL := by
  have heads : (hs.map flipE).map (·.1) = hs.map (·.1) := by
    rw [List.map_map]
    rfl
  have F' : FlatOk (hs.map flipE) := by
    refine ⟨⟨by rw [heads]; exact F.red.nd, fun e he => ?_, fun e he h hh ne => ?_⟩, fun e he => ?_, fun e he => ?_⟩
    · obtain ⟨g, hg, rfl⟩ := List.mem_map.mp he
      exact F.red.own g hg
    · obtain ⟨g, hg, rfl⟩ := List.mem_map.mp he
      rw [heads] at hh
      exact F.red.oth g hg h hh ne
    · obtain ⟨g, hg, rfl⟩ := List.mem_map.mp he
      exact F.least g hg
    · obtain ⟨g, hg, rfl⟩ := List.mem_map.mp he
      show 1 - g.2.2 < 2
      omega
  refine ⟨F', ?_⟩
  unfold canon byHead
  rw [heads, List.map_map, List.map_map, List.map_map]
  refine List.map_congr_left fun h hh => ?_
  obtain ⟨e, he, rfl⟩ := List.mem_map.mp (mem_srt.mp hh).2
  show (look (hs.map flipE) e.1).getD (0, 0) = flipL ((look hs e.1).getD (0, 0))
  have h1 := look_of F'.red.nd (List.mem_map.mpr ⟨e, he, rfl⟩)
  have h1 : look (hs.map flipE) e.1 = some (flipL e.2) := h1
  rw [h1, look_of F.red.nd he]
  rfl
theorem all_flip {ls : List (Nat × Nat)} (hl : ∀ l ∈ ls, l.2 < 2) (f : Nat → Bool) : ((ls.map flipL).all fun l => holdsB l f) = !(ls.any fun l => holdsB l f) := by
  rw [Bool.eq_iff_iff, List.all_eq_true, Bool.not_eq_true', ← Bool.not_eq_true, List.any_eq_true]
  constructor
  · rintro h ⟨l, hm, hh⟩
    have := holdsB_iff.mp (h (flipL l) (List.mem_map.mpr ⟨l, hm, rfl⟩))
    exact (holds_flip (hl l hm)).mp this (holdsB_iff.mp hh)
  · intro h l hm
    obtain ⟨k, hk, rfl⟩ := List.mem_map.mp hm
    exact holdsB_iff.mpr ((holds_flip (hl k hk)).mpr fun z => h ⟨k, hk, holdsB_iff.mpr z⟩)
theorem map_flip {ls : List (Nat × Nat)} (hl : ∀ l ∈ ls, l.2 < 2) : (ls.map flipL).map flipL = ls := by
  rw [List.map_map]
  conv => rhs; rw [← List.map_id ls]
  exact List.map_congr_left fun l h => flip_flip (hl l h)
theorem canon_flat {hs : List (Nat × Nat × Nat)} (F : FlatOk hs) : ∃ gs, lflat (canon hs) = some gs ∧ canon gs = canon hs := by
  have hl := canon_lt F
  obtain ⟨a1, a2⟩ := lflat_sol _ hl
  have on : ∀ f, sol hs f ↔ ∀ l ∈ canon hs, holdsL l f := fun f => by
    rw [← all_canon F f, List.all_eq_true]
    exact ⟨fun h l hl => holdsB_iff.mp (h l hl), fun h l hl => holdsB_iff.mpr (h l hl)⟩
  cases q : lflat (canon hs) with
  | none =>
    obtain ⟨f, s⟩ := flat_has F
    exact absurd ((on f).mp s) (a2 q f)
  | some gs => exact ⟨gs, rfl, canon_uniq (lflat_flat _ hl gs q) F fun f => (a1 gs q f).trans (on f).symm⟩
theorem twoFD_facts {hs gs : List (Nat × Nat × Nat)} (F : FlatOk hs) (FG : FlatOk gs) : nice (.list [flatD hs, flatD gs]) = true ∧ (PyData.list [flatD hs, flatD gs]).depth ≤ 40 ∧ (PyData.list [flatD hs, flatD gs]).weight ≤ 2 ^ 20 := by
  obtain ⟨a1, a2, a3⟩ := flatD_facts F
  obtain ⟨b1, b2, b3⟩ := flatD_facts FG
  refine ⟨?_, ?_, ?_⟩
  · refine niceAll_iff.mpr fun x hx => ?_
    rcases List.mem_cons.mp hx with rfl | hx
    · exact a1
    · rcases List.mem_cons.mp hx with rfl | hx
      · exact b1
      · cases hx
  · show max _ (max _ 0) + 1 ≤ 40
    have := Nat.max_le.mpr ⟨a2, Nat.max_le.mpr ⟨b2, Nat.zero_le 3⟩⟩
    omega
  · show (flatD hs).weight + 1 + ((flatD gs).weight + 1 + 0) ≤ 2 ^ 20
    omega
end Es
set_option Elab.async false
set_option linter.all false
set_option maxRecDepth 100000
set_option maxHeartbeats 4000000
namespace Es
open PySem PySem.Spec PyProof.Rows L2
theorem sorted_iv {l : List Nat} {ys : List Int} (nd : l.Nodup) (h63 : ∀ u ∈ l, u < 63) (hp : ys.Perm (l.map Int.ofNat)) (hs : ys.Pairwise (· ≤ ·)) : ys.map V.int = iv (bts (msk l)) := by
  have d : DictM (l.map (fun (u : Nat) => ((Sum.inl (u : Int) : Key), V.bl true))) (msk l) := ⟨l, rfl, nd, fun u => by
    rw [msk_bit nd]
    constructor
    · intro h
      exact ⟨h63 u h, decide_eq_true h⟩
    · intro h
      exact of_decide_eq_true h.2⟩
  obtain ⟨ks, e, _, f⟩ := dictM_keys d
  have e2 : ks = l.map Int.ofNat := by
    rw [List.map_map] at e
    have inj : ∀ (a : List Nat) (b : List Int), a.map (fun (u : Nat) => (Sum.inl (u : Int) : Key)) = b.map Sum.inl → b = a.map Int.ofNat := by
      intro a
      induction a with
      | nil =>
        intro b h
        cases b with
        | nil => rfl
        | cons y b => cases h
      | cons x a ih =>
        intro b h
        cases b with
        | nil => cases h
        | cons y b =>
          rw [List.map_cons, List.map_cons] at h
          injection h with h1 h2
          injection h1 with h1
          rw [List.map_cons, ih b h2, ← h1]
          rfl
    exact inj l ks e
  exact f ys (by rw [e2]; exact hp) hs
theorem msk_lt {l : List Nat} (nd : l.Nodup) {n : Nat} (h : ∀ u ∈ l, u < n) : msk l < 2 ^ n := by
  refine Nat.lt_pow_two_of_testBit _ fun i hi => ?_
  rw [msk_bit nd]
  exact decide_eq_false fun z => by
    have := h i z
    omega
theorem rg_iv (n : Nat) : rgV 0 (n : Int) = iv (List.range n) := by
  unfold rgV iv
  have e : ((n : Int) - 0).toNat = n := by omega
  rw [e]
  refine List.map_congr_left fun i _ => ?_
  show V.int (0 + (i : Int)) = V.int (i : Int)
  rw [Int.zero_add]
theorem order_of {ys : List V} {n : Nat} (p : ys.Perm (rgV 0 (n : Int))) : ∃ os : List Nat, ys = iv os ∧ os.Perm (List.range n) := by
  rw [rg_iv] at p
  obtain ⟨os, p1, e⟩ := perm_back (f := fun (u : Nat) => V.int (u : Int)) p (L := List.range n) rfl
  exact ⟨os, e, p1⟩
def rTupK (K : PySem.W.Frag) : List V → Hp → VK → Prop := fun xs H Q => ∃ p ys, xs = [.ref p] ∧ ((SqL K H p ys ∧ ∀ l, H l = none → Q (.ref l) (upd H l (.tup ys))) ∨ (SqT K H p ys ∧ Q (.ref p) H))
def sentL (os : List Nat) (f m : Nat) : List Nat := (bts m).map fun u => os.getD (f + u) 0
theorem nodup_getD {os : List Nat} (nd : os.Nodup) {i j : Nat} (hi : i < os.length) (hj : j < os.length) (ne : i ≠ j) : os.getD i 0 ≠ os.getD j 0 := by
  have pw := List.pairwise_iff_getElem.mp nd
  rw [List.getD_eq_getElem?_getD, List.getD_eq_getElem?_getD, List.getElem?_eq_getElem hi, List.getElem?_eq_getElem hj]
  show os[i] ≠ os[j]
  rcases Nat.lt_or_gt_of_ne ne with h | h
  · exact pw i j hi hj h
  · exact fun z => pw j i hj hi h z.symm
theorem sentL_facts {os : List Nat} {N f k m : Nat} (p : os.Perm (List.range N)) (hk : f + k ≤ N) (hm : m < 2 ^ k) : (sentL os f m).Nodup ∧ (∀ u ∈ sentL os f m, u < N) ∧ ∀ u ∈ bts m, f + u < os.length := by
  have nd : os.Nodup := p.nodup_iff.mpr List.nodup_range
  have ln : os.length = N := by rw [p.length_eq, List.length_range]
  have lt : ∀ u ∈ bts m, f + u < os.length := fun u hu => by
    have := bits_below hm hu
    omega
  refine ⟨?_, fun u hu => ?_, lt⟩
  · refine List.pairwise_map.mpr ((bts_nodup m).imp_of_mem fun {a b} ha hb ne => ?_)
    exact nodup_getD nd (lt a ha) (lt b hb) (by omega)
  · obtain ⟨w, hw, rfl⟩ := List.mem_map.mp hu
    have h := lt w hw
    rw [List.getD_eq_getElem?_getD, List.getElem?_eq_getElem h]
    exact List.mem_range.mp (p.mem_iff.mp (List.getElem_mem h))
def keepB (ls : List (Nat × Nat)) (f : Nat → Bool) : Bool := ls.any fun l => holdsB l f
theorem miss_sem {ls : List (Nat × Nat)} (hl : ∀ l ∈ ls, l.1 < 2 ^ 63 ∧ l.2 < 2) : (∀ hs, lflat (ls.map flipL) = some hs → ∀ f, sol hs f ↔ keepB ls f = false) ∧ (lflat (ls.map flipL) = none → ∀ f, keepB ls f = true) := by
  obtain ⟨a1, a2⟩ := lflat_sol _ (flip_lt hl)
  have key : ∀ f, (∀ l ∈ ls.map flipL, holdsL l f) ↔ keepB ls f = false := fun f => by
    have e := all_flip (ls := ls) (fun l h => (hl l h).2) f
    have e2 : (∀ l ∈ ls.map flipL, holdsL l f) ↔ ((ls.map flipL).all fun l => holdsB l f) = true := by
      rw [List.all_eq_true]
      exact ⟨fun h l m => holdsB_iff.mpr (h l m), fun h l m => holdsB_iff.mp (h l m)⟩
    rw [e2, e]
    unfold keepB
    cases (ls.any fun l => holdsB l f) <;> simp
  refine ⟨fun hs q f => (a1 hs q f).trans (key f), fun q f => ?_⟩
  have h := a2 q f
  rw [key f] at h
  cases e : keepB ls f with
  | true => rfl
  | false => exact absurd e h
theorem folB_iff {ls ks : List (Nat × Nat)} (hl : ∀ l ∈ ls, l.1 < 2 ^ 63 ∧ l.2 < 2) (hk : ∀ l ∈ ks, l.1 < 2 ^ 63 ∧ l.2 < 2) : folB ls ks = true ↔ ∀ f, keepB ks f = true → keepB ls f = true := by
  obtain ⟨a1, a2⟩ := miss_sem hl
  obtain ⟨b1, b2⟩ := miss_sem hk
  unfold folB
  cases q1 : lflat (ls.map flipL) with
  | none => exact ⟨fun _ f _ => a2 q1 f, fun _ => rfl⟩
  | some hs =>
    have F := lflat_flat _ (flip_lt hl) hs q1
    cases q2 : lflat (ks.map flipL) with
    | none =>
      refine ⟨fun h => (by cases h), fun h => ?_⟩
      obtain ⟨f, sf⟩ := flat_has F
      have := h f (b2 q2 f)
      rw [(a1 hs q1 f).mp sf] at this
      cases this
    | some gs =>
      have FG := lflat_flat _ (flip_lt hk) gs q2
      show liesB hs (canon gs) = true ↔ _
      rw [lies_iff F FG]
      constructor
      · intro h f hf
        cases e : keepB ls f with
        | true => rfl
        | false =>
          have := (b1 gs q2 f).mp (h f ((a1 hs q1 f).mpr e))
          rw [hf] at this
          cases this
      · intro h f sf
        refine (b1 gs q2 f).mpr ?_
        cases e : keepB ks f with
        | false => rfl
        | true =>
          have := h f e
          rw [(a1 hs q1 f).mp sf] at this
          cases this
theorem keep_num {n : Nat} {ls ks : List (Nat × Nat)} (hl : ∀ l ∈ ls, l.1 < 2 ^ n ∧ l.2 < 2) (hk : ∀ l ∈ ks, l.1 < 2 ^ n ∧ l.2 < 2) (f : Nat → Bool) : ∃ s, s < 2 ^ n ∧ keepB ls (fS n s) = keepB ls f ∧ keepB ks (fS n s) = keepB ks f := by
  obtain ⟨s, hs, h⟩ := holds_num (n := n) f
  have go : ∀ ms : List (Nat × Nat), (∀ l ∈ ms, l.1 < 2 ^ n ∧ l.2 < 2) → keepB ms (fS n s) = keepB ms f := fun ms hm => by
    rw [Bool.eq_iff_iff]
    unfold keepB
    rw [List.any_eq_true, List.any_eq_true]
    constructor
    · rintro ⟨l, m, hh⟩
      exact ⟨l, m, holdsB_iff.mpr ((h l (hm l m).1).mp (holdsB_iff.mp hh))⟩
    · rintro ⟨l, m, hh⟩
      exact ⟨l, m, holdsB_iff.mpr ((h l (hm l m).1).mpr (holdsB_iff.mp hh))⟩
  exact ⟨s, hs, go ls hl, go ks hk⟩
theorem two63 {n : Nat} (n62 : n ≤ 62) {ls : List (Nat × Nat)} (hl : ∀ l ∈ ls, l.1 < 2 ^ n ∧ l.2 < 2) : ∀ l ∈ ls, l.1 < 2 ^ 63 ∧ l.2 < 2 := fun l h => ⟨Nat.lt_of_lt_of_le (hl l h).1 (Nat.pow_le_pow_right (by decide) (by omega)), (hl l h).2⟩
theorem fol_bits {n x y : Nat} {ls ks : List (Nat × Nat)} (n62 : n ≤ 62) (hl : ∀ l ∈ ls, l.1 < 2 ^ n ∧ l.2 < 2) (hk : ∀ l ∈ ks, l.1 < 2 ^ n ∧ l.2 < 2) (hx : BitsOf (2 ^ n) x (fun s => keepB ls (fS n s))) (hy : BitsOf (2 ^ n) y (fun s => keepB ks (fS n s))) :
    folB ls ks = decide (x &&& y = y) := by
  rw [Bool.eq_iff_iff, decide_eq_true_eq, folB_iff (two63 n62 hl) (two63 n62 hk)]
  constructor
  · intro h
    refine BitsOf.uniq (hx.and hy) (hy.congr fun s hs => ?_)
    cases e : keepB ks (fS n s) with
    | false => simp
    | true => rw [h _ e]; rfl
  · intro h f hf
    obtain ⟨s, hs, e1, e2⟩ := keep_num hl hk f
    have t := (hx.and hy).2 s hs
    rw [h, hy.2 s hs] at t
    dsimp only at t
    rw [e1, e2, hf] at t
    rw [← Bool.and_true (keepB ls f)]
    exact t.symm
theorem eqv_line_iff {l k : Nat × Nat} (hl : l.1 < 2 ^ 63) (hk : k.1 < 2 ^ 63) (h : PyData.eqv (lineD l) (lineD k) = true) : l = k := by
  have h : (PyData.eqv (sumD l.1) (sumD k.1) && (PyData.eqv (.int (l.2 : Int)) (.int (k.2 : Int)) && true)) = true := h
  rw [Bool.and_eq_true, Bool.and_true] at h
  have h2 : ((l.2 : Int) == (k.2 : Int)) = true := h.2
  have h2 := beq_iff_eq.mp h2
  exact Prod.ext (eqv_sumD_iff hl hk h.1) (by omega)
theorem eqv_lines_iff : ∀ {ls ks : List (Nat × Nat)}, (∀ l ∈ ls, l.1 < 2 ^ 63) → (∀ l ∈ ks, l.1 < 2 ^ 63) → PyData.eqvAll (ls.map lineD) (ks.map lineD) = true → ls = ks
  | [], [], _, _, _ => rfl
  | [], _ :: _, _, _, h => by cases h
  | _ :: _, [], _, _, h => by cases h
  | l :: ls, k :: ks, hl, hk, h => by
    have h : (PyData.eqv (lineD l) (lineD k) && PyData.eqvAll (ls.map lineD) (ks.map lineD)) = true := h
    rw [Bool.and_eq_true] at h
    rw [eqv_line_iff (hl l List.mem_cons_self) (hk k List.mem_cons_self) h.1, eqv_lines_iff (fun x m => hl x (List.mem_cons_of_mem _ m)) (fun x m => hk x (List.mem_cons_of_mem _ m)) h.2]
theorem eqv_flat_iff {hs gs : List (Nat × Nat × Nat)} (F : FlatOk hs) (FG : FlatOk gs) : PyData.eqv (flatD hs) (flatD gs) = true ↔ canon hs = canon gs := by
  constructor
  · intro h
    exact eqv_lines_iff (fun l m => (canon_lt F l m).1) (fun l m => (canon_lt FG l m).1) (show PyData.eqvAll _ _ = true from h)
  · intro h
    unfold flatD
    rw [h]
    exact SeqAt.eqv_refl _ (nice_facts _ (flatD_facts FG).1).1
theorem sol_canon {hs gs : List (Nat × Nat × Nat)} (F : FlatOk hs) (FG : FlatOk gs) (e : canon hs = canon gs) (f : Nat → Bool) : sol hs f ↔ sol gs f := by
  rw [← all_canon F f, ← all_canon FG f, e]
theorem sam_bits {n x y : Nat} {ls ks : List (Nat × Nat)} (n62 : n ≤ 62) (hl : ∀ l ∈ ls, l.1 < 2 ^ n ∧ l.2 < 2) (hk : ∀ l ∈ ks, l.1 < 2 ^ n ∧ l.2 < 2) (hx : BitsOf (2 ^ n) x (fun s => keepB ls (fS n s))) (hy : BitsOf (2 ^ n) y (fun s => keepB ks (fS n s))) :
    samB ls ks = decide (x = y) := by
  obtain ⟨a1, a2⟩ := miss_sem (two63 n62 hl)
  obtain ⟨b1, b2⟩ := miss_sem (two63 n62 hk)
  have same : x = y ↔ ∀ f, keepB ls f = keepB ks f := by
    constructor
    · intro h f
      obtain ⟨s, hs, e1, e2⟩ := keep_num hl hk f
      rw [← e1, ← e2]
      have t := hx.2 s hs
      rw [h, hy.2 s hs] at t
      exact t.symm
    · intro h
      exact BitsOf.uniq hx (hy.congr fun s _ => (h _).symm)
  rw [Bool.eq_iff_iff, decide_eq_true_eq, same]
  unfold samB
  cases q1 : lflat (ls.map flipL) with
  | none =>
    cases q2 : lflat (ks.map flipL) with
    | none => exact ⟨fun _ f => by rw [a2 q1 f, b2 q2 f], fun _ => rfl⟩
    | some gs =>
      refine ⟨fun h => (by cases h), fun h => ?_⟩
      obtain ⟨f, sf⟩ := flat_has (lflat_flat _ (flip_lt (two63 n62 hk)) gs q2)
      have := h f
      rw [a2 q1 f, (b1 gs q2 f).mp sf] at this
      cases this
  | some hs =>
    have F := lflat_flat _ (flip_lt (two63 n62 hl)) hs q1
    cases q2 : lflat (ks.map flipL) with
    | none =>
      refine ⟨fun h => (by cases h), fun h => ?_⟩
      obtain ⟨f, sf⟩ := flat_has F
      have := h f
      rw [b2 q2 f, (a1 hs q1 f).mp sf] at this
      cases this
    | some gs =>
      have FG := lflat_flat _ (flip_lt (two63 n62 hk)) gs q2
      show PyData.eqv (flatD hs) (flatD gs) = true ↔ _
      rw [eqv_flat_iff F FG]
      constructor
      · intro e f
        have h1 := (a1 hs q1 f).symm.trans ((sol_canon F FG e f).trans (b1 gs q2 f))
        cases h2 : keepB ls f <;> cases h3 : keepB ks f <;> simp_all
      · intro h
        refine canon_uniq F FG fun f => ?_
        rw [a1 hs q1 f, b1 gs q2 f, h f]
def sp_law_is_following_right (K : PySem.W.Frag) : Sp := fun vs H Q _ => ∃ (v u w : V) (n : Nat) (ls ks : List (Nat × Nat)), vs = [v, u, w] ∧ RoomV K H v n ∧ n ≤ 7 ∧ LinesV K H u ls ∧ (∀ l ∈ ls, l.1 < 2 ^ n ∧ l.2 < 2) ∧ ls.length ≤ 60 ∧ LinesV K H w ks ∧ (∀ l ∈ ks, l.1 < 2 ^ n ∧ l.2 < 2) ∧ ks.length ≤ 60 ∧
  ∀ H', Same H H' → Q (.bl true) H'
def sp_law_beside (K : PySem.W.Frag) : Sp := fun vs H Q _ => ∃ (b c : Addr) (v : V) (n : Nat) (ls : List (Nat × Nat)), vs = [.ref b, .int (n : Int), v] ∧ BagAt K H b c ∧ 0 < n ∧ n ≤ 12 ∧ LinesV K H v ls ∧ (∀ l ∈ ls, l.1 < 2 ^ n ∧ l.2 < 2) ∧ ls.length ≤ 20 ∧
  ∀ H' u ks, But b H H' → BagAt K H' b c → LinesV K H' u ks → (∀ l ∈ ks, l.1 < 2 ^ n ∧ l.2 < 2) → ks.length ≤ 60 → Q u H'
theorem cut_last (us : List V) : cutV us none (some (-1)) = us.take (us.length - 1) := by
  unfold cutV
  have h0 : HT.sIx us.length 0 none = 0 := rfl
  have h1 : HT.sIx us.length us.length (some (-1)) = us.length - 1 := by
    show (if (-1 : Int) < 0 then ((-1 : Int) + (us.length : Int)).toNat else min (-1 : Int).toNat us.length) = _
    rw [if_pos (by decide)]
    omega
  rw [h0, h1]
  rfl
def boolsD (bs : List Bool) : PyData := .list (bs.map .bool)
theorem bools_dp {K : PySem.W.Frag} {H : Hp} : ∀ bs : List Bool, DpAll K H (bs.map V.bl) (bs.map .bool)
  | [] => .nil
  | b :: bs => .cons (.bl b) (bools_dp bs)
theorem bools_facts (bs : List Bool) (h : bs.length ≤ 1000) : nice (boolsD bs) = true ∧ (boolsD bs).depth ≤ 40 ∧ (boolsD bs).weight ≤ 2 ^ 20 := by
  have d : ∀ bs : List Bool, PyData.depthAll (bs.map .bool) = 0 := fun bs => by
    induction bs with
    | nil => rfl
    | cons b bs ih =>
      show max 0 (PyData.depthAll (bs.map .bool)) = 0
      rw [ih]
      rfl
  have w : ∀ bs : List Bool, PyData.weightAll (bs.map .bool) ≤ 10 * bs.length := fun bs => by
    induction bs with
    | nil => exact Nat.zero_le _
    | cons b bs ih =>
      show PyData.weight (.bool b) + 1 + PyData.weightAll (bs.map .bool) ≤ _
      have : PyData.weight (.bool b) ≤ 9 := by cases b <;> decide
      rw [List.length_cons]
      omega
  refine ⟨niceAll_iff.mpr fun x hx => ?_, ?_, ?_⟩
  · obtain ⟨b, _, rfl⟩ := List.mem_map.mp hx
    rfl
  · show PyData.depthAll (bs.map .bool) + 1 ≤ 40
    rw [d]
    decide
  · have := w bs
    show PyData.weightAll (bs.map .bool) ≤ _
    omega
theorem bts_lenN {m n : Nat} (h : m < 2 ^ n) : (bts m).length ≤ n := by
  have := nodup_len (l := bts m) (m := List.range n) (bts_nodup m) fun u hu => List.mem_range.mpr (bits_below h hu)
  rwa [List.length_range] at this
theorem weight_sumN {m n : Nat} (h : m < 2 ^ n) : (sumD m).weight ≤ 7 * n := by
  have w := weight_ints (k := 6) (ns := (bts m).map Int.ofNat) fun i hi => by
    obtain ⟨u, hu, rfl⟩ := List.mem_map.mp hi
    have := (mem_bts.mp hu).1
    show u < 2 ^ 6
    omega
  have l := bts_lenN h
  rw [List.length_map] at w
  show PyData.weightAll _ ≤ 7 * n
  omega
theorem weight_lineN {n : Nat} {l : Nat × Nat} (h : l.1 < 2 ^ n ∧ l.2 < 2) : (lineD l).weight ≤ 7 * n + 3 := by
  have w1 := weight_sumN h.1
  have w2 : PyData.weight (.int (l.2 : Int)) ≤ 1 := weight_int (show l.2 < 2 ^ 1 by omega)
  show (sumD l.1).weight + 1 + (PyData.weight (.int (l.2 : Int)) + 1 + 0) ≤ 7 * n + 3
  omega
theorem weight_linesN {n : Nat} : ∀ {ls : List (Nat × Nat)}, (∀ l ∈ ls, l.1 < 2 ^ n ∧ l.2 < 2) → PyData.weightAll (ls.map lineD) ≤ (7 * n + 4) * ls.length
  | [], _ => Nat.zero_le _
  | l :: ls, h => by
    have w1 := weight_lineN (h l List.mem_cons_self)
    have w2 := weight_linesN fun x m => h x (List.mem_cons_of_mem _ m)
    show (lineD l).weight + 1 + PyData.weightAll (ls.map lineD) ≤ _
    rw [List.length_cons, Nat.mul_add, Nat.mul_one]
    omega
theorem linesT_facts {n : Nat} (n12 : n ≤ 12) {ls : List (Nat × Nat)} (h : ∀ l ∈ ls, l.1 < 2 ^ n ∧ l.2 < 2) : nice (.tuple (ls.map lineD)) = true ∧ (PyData.tuple (ls.map lineD)).depth ≤ 3 ∧ (PyData.tuple (ls.map lineD)).weight ≤ 88 * ls.length := by
  refine ⟨niceAll_iff.mpr fun x hx => ?_, ?_, ?_⟩
  · obtain ⟨l, hl, rfl⟩ := List.mem_map.mp hx
    exact nice_line (h l hl).2
  · show PyData.depthAll _ + 1 ≤ 3
    have := depth_lines ls
    omega
  · show PyData.weightAll _ ≤ 88 * ls.length
    exact Nat.le_trans (weight_linesN h) (Nat.mul_le_mul_right _ (by omega))
theorem flatN_facts {n : Nat} (n12 : n ≤ 12) {hs : List (Nat × Nat × Nat)} (F : FlatOk hs) (hlt : ∀ e ∈ hs, e.2.1 < 2 ^ n) : nice (flatD hs) = true ∧ (flatD hs).depth ≤ 3 ∧ (flatD hs).weight ≤ 1056 := by
  obtain ⟨a, b, c⟩ := linesT_facts n12 (canon_below F hlt)
  refine ⟨a, b, Nat.le_trans c ?_⟩
  rw [flat_len F]
  have := heads_le F hlt
  omega
theorem missD_facts {n : Nat} (n12 : n ≤ 12) {ls : List (Nat × Nat)} (h : ∀ l ∈ ls, l.1 < 2 ^ n ∧ l.2 < 2) : nice (optFD (lflat (ls.map flipL))) = true ∧ (optFD (lflat (ls.map flipL))).depth ≤ 3 ∧ (optFD (lflat (ls.map flipL))).weight ≤ 1056 := by
  cases q : lflat (ls.map flipL) with
  | none => exact ⟨rfl, Nat.zero_le _, Nat.zero_le _⟩
  | some hs => exact flatN_facts n12 (lflat_flat _ (flip_lt (two63 (by omega) h)) hs q) (lflat_lt (by omega) _ (flip_lt h) hs q)
theorem list_facts {ds : List PyData} {k w : Nat} (h : ∀ d ∈ ds, nice d = true ∧ d.depth ≤ k ∧ d.weight ≤ w) (hk : k < 40) (hw : (w + 1) * ds.length ≤ 2 ^ 20) : nice (.list ds) = true ∧ (PyData.list ds).depth ≤ 40 ∧ (PyData.list ds).weight ≤ 2 ^ 20 := by
  have dp : ∀ ds : List PyData, (∀ d ∈ ds, d.depth ≤ k) → PyData.depthAll ds ≤ k := fun ds => by
    induction ds with
    | nil => exact fun _ => Nat.zero_le _
    | cons d ds ih =>
      intro h
      exact Nat.max_le.mpr ⟨h d List.mem_cons_self, ih fun x m => h x (List.mem_cons_of_mem _ m)⟩
  have wt : ∀ ds : List PyData, (∀ d ∈ ds, d.weight ≤ w) → PyData.weightAll ds ≤ (w + 1) * ds.length := fun ds => by
    induction ds with
    | nil => exact fun _ => Nat.zero_le _
    | cons d ds ih =>
      intro h
      have a := h d List.mem_cons_self
      have b := ih fun x m => h x (List.mem_cons_of_mem _ m)
      show d.weight + 1 + PyData.weightAll ds ≤ _
      rw [List.length_cons, Nat.mul_add, Nat.mul_one]
      omega
  refine ⟨niceAll_iff.mpr fun d m => (h d m).1, ?_, Nat.le_trans (wt ds fun d m => (h d m).2.2) hw⟩
  have := dp ds fun d m => (h d m).2.1
  show PyData.depthAll ds + 1 ≤ 40
  omega
theorem dp_linesV {K : PySem.W.Frag} {H : Hp} {v : V} {ls : List (Nat × Nat)} (h : LinesV K H v ls) : Dp K H v (.tuple (ls.map lineD)) := by
  obtain ⟨t, us, rfl, h1, h2⟩ := h
  exact .tup h1 (dp_lines h2)
theorem miss_dp {K : PySem.W.Frag} {H : Hp} : ∀ {us : List V} {cs : List (List (Nat × Nat))}, Paired (MissV K H) us cs → DpAll K H us (cs.map fun ls => optFD (lflat (ls.map flipL)))
  | _, _, .nil => .nil
  | _, _, .cons h t => .cons (dp_optF h) (miss_dp t)
end Es
set_option Elab.async false
set_option linter.all false
set_option maxRecDepth 100000
set_option maxHeartbeats 4000000
namespace Es
open PySem PySem.Spec PyProof.Rows L2
abbrev enumObj (hp : Heap) : Obj := { cls := .type "enumerate", data := .fields #[.none, .bool false, .ref hp.objs.size, rawInt 0, .none, .none] }
theorem meets_enum1 {v : Value} {o : Obj} {Hs : Heap → Prop} (B : Begins v o Hs) : Meets (Builtin.«enumerate.__new__» ⟨[.type "enumerate", v], []⟩) (fun _ R s => Hs s.heap ∧
    R (.ok (.ret (.ref (s.heap.push o).objs.size))) { s with heap := (s.heap.push o).push (enumObj s.heap) }) := by
  refine .of_wp fun prog w A R s h => ?_
  obtain ⟨hp, g, d, tk, os⟩ := s
  obtain ⟨h1, h⟩ := h
  have sub := sub_enumerate
  have go : ∀ {A' : Around} {E' Q' : Value → Shared → Prop}, Q' (.ref hp.objs.size) ⟨hp.push o, g, d, tk, os⟩ → wpAny (model prog w) A' (pyIter v) Q' E' ⟨hp, g, d, tk, os⟩ := fun q => B.iter prog w _ _ ⟨hp, g, d, tk, os⟩ _ h1 q
  wp_walk using go
  refine wpAny_stack_any fun st => wpAny_pure ?_
  split
  · rename_i c _ _ _ _ _
    cases (c == Value.type "enumerate") <;> (wp_walk using go; exact ⟨_, rfl, h⟩)
  · wp_walk using go
    exact ⟨_, rfl, h⟩
section
variable {prog : Program} {w : World} {A : Around} {E : Value → Shared → Prop} {s : Shared}
theorem call_enum1 {v : Value} {o : Obj} {Hs : Heap → Prop} {Q : Value → Shared → Prop} (B : Begins v o Hs) (h1 : Hs s.heap)
    (h : ∀ h', IsEnum h' (s.heap.objs.size + 1) s.heap.objs.size 0 .none → h'.get? s.heap.objs.size = some o → h'.objs.size = s.heap.objs.size + 2 → (∀ b x, s.heap.get? b = some x → h'.get? b = some x) → Q (.ref (s.heap.objs.size + 1)) { s with heap := h' }) :
    wpAny (model prog w) A (call (.type "enumerate") [v]) Q E s := by
  refine callType_new F.called_enumerate (by decide) (F.typeCall_enumerate_1 _) (F.newCall_enumerate_1 _) (fun obj => F.args_object_init_2 obj _) F.entry_enumerate_new (meets_enum1 B) ⟨h1, ?_⟩
  have sz : (s.heap.push o).objs.size = s.heap.objs.size + 1 := Heap.size_push ..
  have he := Heap.get?_push_size (s.heap.push o) (o := enumObj s.heap) rfl
  show _ ∧ _
  rw [sz] at he ⊢
  exact ⟨⟨_, he, rfl⟩, h _ he (Heap.get?_push_of_some _ (Heap.get?_push_size _ B.free)) (by rw [Heap.size_push, sz]) fun b x e => Heap.get?_push_of_some _ (Heap.get?_push_of_some _ e)⟩
end
def IteT (K : PySem.W.Frag) (a : Addr) : It :=
  ⟨fun i H => ∃ (xs : List V) (x : V), SqT K H a xs ∧ xs[i]? = some x, fun i H v H' => ∃ T x, v = .ref T ∧ H T = none ∧ H' = upd H T (.tup [.int (i : Nat), x]) ∧ ∀ xs, SqT K H a xs → xs[i]? = some x, fun i H => ∃ xs : List V, SqT K H a xs ∧ xs.length ≤ i⟩
theorem turn_enumT {P : Program} {w : World} {K : PySem.W.Frag} {elts : List Expr} {kk : Nat} {tpos : Pos} (a e it : Addr) :
    Turn P w K (.Tuple elts kk tpos) (IteT K a) [e, it] e (fun i h => (∃ old, IsEnum h e it ((i : Nat) : Int) old) ∧ h.IsTupleIter it a i ∧ e ≠ it) where
  mem := List.mem_cons_self
  obj := fun i h st b hb => by
    obtain ⟨⟨old, he⟩, ⟨o, ho, hc, hd⟩, _⟩ := st
    rcases List.mem_cons.mp hb with rfl | hb
    · exact ⟨_, he, fun v q => nomatch q⟩
    · rw [List.mem_singleton.mp hb]
      exact ⟨o, ho, fun v q => by rw [hd] at q; cases q⟩
  keep := fun i h h' st k => let ⟨⟨old, he⟩, hi, hne⟩ := st; ⟨⟨old, k e List.mem_cons_self _ he⟩, hi.at fun o q => k it (by simp) o q, hne⟩
  item := by
    intro X hP hw hK hc i pins s σ H E I hf st hg
    subst hP hw hK
    obtain ⟨⟨old, he⟩, hit, hne⟩ := st
    obtain ⟨xs, x, hq, hx⟩ := hg
    obtain ⟨its, rv, p, hz⟩ := I.tuple hq
    have p : s.heap.IsTuple a its.toArray := p
    obtain ⟨u, hu, ru⟩ := rv.get hx
    have hel : e < s.heap.objs.size := Heap.lt_size he
    have hil : it < s.heap.objs.size := by obtain ⟨_, q, _⟩ := hit; exact Heap.lt_size q
    have ha : a ≠ it := fun z => by
      obtain ⟨o1, q1, c1, _⟩ := hit
      obtain ⟨o2, q2, c2, _⟩ := p
      rw [z, q1] at q2
      rw [← Option.some.inj q2, c1] at c2
      injection c2 with c2
      exact absurd c2 (by decide)
    have ea : e ∉ [it, a] := fun z => by
      rcases List.mem_cons.mp z with z | z
      · exact hne z
      · obtain ⟨o2, q2, c2, _⟩ := p
        rw [← List.mem_singleton.mp z, he] at q2
        rw [← Option.some.inj q2] at c2
        injection c2 with c2
        exact absurd c2 (by decide)
    have ilt : i < its.toArray.size := by
      have := (List.getElem?_eq_some_iff.mp hu).1
      rw [List.size_toArray]
      exact this
    refine wpAny_pyNext_enum_itemD (Draws.tuple (show X.A.in1.handled = none from I.ok.hd hc) it a ha its.toArray) he ⟨hit, p⟩ ilt hne ea fun x' h' tk hx' ho st' hT hsz hk => ?_
    have exu : x' = u := by
      have h1 : its.toArray[i]? = some u := by simpa using hu
      exact Option.some.inj (hx'.symm.trans h1)
    subst exu
    refine ⟨_, rfl, wpAny_letOwnedTupleGo_enum (s := { s with heap := h', toks := tk + 1 }) ho fun h'' he' sb => ?_⟩
    have hT2 := (sb.2 _ (Nat.ne_of_gt hel)).trans hT
    have new : ObjOk X.prog X.w (upd H s.heap.objs.size (.tup [.int (i : Nat), x])) h'' s.heap.objs.size (.tup [.int (i : Nat), x]) :=
      ⟨by show 2 ≤ sizeLine; decide, [.int i tk, x'], .cons ⟨_, rfl⟩ (.cons ru .nil), ⟨_, hT2, rfl, _, rfl⟩⟩
    have I1 := I.turnedNew (ch := [e, it]) (t' := tk + 1) (fun b ob hb q => (sb.2 b (fun z => hb (by simp [z]))).trans (hk b ob (fun z => hb (by simp [z])) (fun z => hb (by simp [z])) q)) hf (Nat.le_refl _) new
    refine ⟨.ref s.heap.objs.size, _, I1, rfl, ⟨_, x, rfl, I.hok.fresh (Nat.le_refl _), rfl, fun ys hy => by rw [I.tuple_inj hy hq]; exact hx⟩, ⟨⟨x', ?_⟩, st'.1.at fun o q => (sb.2 it (Ne.symm hne)).trans q, hne⟩, fun b hb => ?_⟩
    · rw [show ((i + 1 : Nat) : Int) = (i : Int) + 1 by omega]
      exact he'
    · have hb' : b < s.heap.objs.size := by
        rcases List.mem_cons.mp hb with rfl | z
        · exact hel
        · rw [List.mem_singleton.mp z]
          exact hil
      rw [upd_ne (Nat.ne_of_lt hb')]
      exact (hf b hb).1
  done := by
    intro X hP hw hK hc i pins s σ H E I hf st hg
    subst hP hw hK
    obtain ⟨⟨old, he⟩, hit, hne⟩ := st
    obtain ⟨xs, hq, hx⟩ := hg
    obtain ⟨its, rv, p, hz⟩ := I.tuple hq
    have p : s.heap.IsTuple a its.toArray := p
    obtain ⟨f0, f1, f2, f3, f4, f5⟩ := hf it (by simp)
    have hl := rv.length
    have out : its.toArray[i]? = none := by simp; omega
    have D : Draws X.prog X.w X.A.in1 it [it, a] i (fun _ _ => True) (fun k h => k = i ∧ h.IsTupleIter it a i ∧ h.IsTuple a its.toArray) := {
      live := fun _ _ st => let ⟨o, ho, _⟩ := st.2.1; ⟨o, ho⟩
      frame := fun _ _ _ st hk => ⟨st.1, st.2.1.at fun o e => hk it (by simp) o e, st.2.2.at fun o e => hk a (by simp) o e⟩
      item := fun k _ _ _ lt st _ => absurd st.1 (Nat.ne_of_lt lt)
      done := fun _ _ _ st hE => RZ.nextOf_tuple_end (show X.A.in1.handled = none from I.ok.hd hc) st.2.1 st.2.2 out hE }
    exact wpAny_pyNext_enum_endD D he ⟨rfl, hit, p⟩ fun h' eb => ⟨rfl, I.turned (t' := s.toks) (fun b o hb q => eb b o hb q) f0 f1 f3 f4 f5⟩
  self := fun A i s Q E st h => let ⟨⟨_, he⟩, _⟩ := st; wpAny_pyIter_enum he h
def iEnumT (K : PySem.W.Frag) (ta : TA) : TI := fun σ H R => ta σ H fun vs H1 => ∃ a xs, vs = [.ref a] ∧ SqT K H1 a xs ∧ R (IteT K a) H1
theorem pi_enumT {X : Cx} {e : Expr} {ta : TA} {p pos tpos : Pos} {elts : List Expr} {kk : Nat} (hg : Gl X "enumerate") (hm : X.mg "enumerate" = none) (ha : PA X [e] ta) (hs : starEach [e] X.env = [(false, eval e X.env)] := by rfl) :
    PI X (.Tuple elts kk tpos) (.Call (.Name "enumerate" p) [e] [] pos) (iEnumT X.K ta) := by
  refine ⟨fun pins s σ H R I h => ?_⟩
  refine Call_ (ld_blt I hg hm boot_enumerate (PyProof.Rows.callWith_type1 (thn (ha.run pos pins s σ H _ I h) fun us s1 ⟨vs, H1, I1, r1, a, xs, ex, hq, q⟩ => ?_) hs rfl))
  subst ex
  rw [Vals.ref1 r1]
  obtain ⟨its, rv, p', hz⟩ := I1.tuple hq
  refine call_enum1 (begins_tuple a its.toArray) p' fun h' he hit hsz hk => wpAny_pyIter_enum he ?_
  have sz := Nat.le_refl s1.heap.objs.size
  refine ⟨s1.heap.objs.size + 1, [s1.heap.objs.size + 1, s1.heap.objs.size], _, _, H1, rfl, I1.kept (t' := s1.toks) hk, turn_enumT a (s1.heap.objs.size + 1) s1.heap.objs.size, ⟨⟨.none, he⟩, ⟨_, hit, rfl, rfl⟩, Nat.succ_ne_self _⟩, fun b hb => ?_, q⟩
  have hle : s1.heap.objs.size ≤ b := by
    rcases List.mem_cons.mp hb with z | z
    · rw [z]; exact Nat.le_succ _
    · rw [List.mem_singleton.mp z]; exact Nat.le_refl _
  exact I1.fpOk hle (I1.hok.fresh hle)
theorem for_enumT {K : PySem.W.Frag} {a : Addr} {xs : List V} {g : TG} {tb : TS} {D : Ends} {σ : L2.St} {H : Hp} (Pv : Nat → L2.St → Hp → Prop) (h0 : Pv 0 σ H) (hl : ∀ i σ H, Pv i σ H → SqT K H a xs)
    (hs : ∀ i x T σ H, xs[i]? = some x → Pv i σ H → H T = none → g (.ref T) σ (upd H T (.tup [.int (i : Nat), x])) fun σ2 H2 => tb { D with nx := Pv (i + 1), ct := Pv (i + 1), bk := D.nx } σ2 H2)
    (hd : ∀ σ H, Pv xs.length σ H → D.nx σ H) :
    ∃ W : Nat → Nat → L2.St → Hp → Prop, (∃ m, W 0 m σ H) ∧ ∀ i m σ H, W i m σ H →
      ((IteT K a).stop i H ∧ D.nx σ H) ∨ ((IteT K a).go i H ∧ ∃ N : L2.St → Hp → Prop, (∀ σ' H', N σ' H' → ∃ m', m' < m ∧ W (i + 1) m' σ' H') ∧ ∀ x H', (IteT K a).yld i H x H' → g x σ H' fun σ2 H2 => tb { D with nx := N, ct := N, bk := D.nx } σ2 H2) := by
  refine ⟨fun i m σ H => i + m = xs.length ∧ Pv i σ H, ⟨xs.length, Nat.zero_add _, h0⟩, fun i m σ H ⟨hm, p⟩ => ?_⟩
  have q := hl i σ H p
  by_cases lt : i < xs.length
  · refine .inr ⟨⟨xs, xs[i], q, List.getElem?_eq_getElem lt⟩, Pv (i + 1), fun σ' H' p' => ⟨m - 1, by omega, by omega, p'⟩, ?_⟩
    rintro x H' ⟨T, y, rfl, nT, rfl, f⟩
    have ey := Option.some.inj ((f xs q).symm.trans (List.getElem?_eq_getElem lt))
    subst ey
    exact hs i _ T σ H (List.getElem?_eq_getElem lt) p nT
  · have e : i = xs.length := by omega
    subst e
    exact .inl ⟨⟨xs, q, Nat.le_refl _⟩, hd σ H p⟩
theorem lc_enumT {K : PySem.W.Frag} {a : Addr} {xs : List V} {g : TG} {tt : TT} {te : TE} {vs : List Nat} {σ : L2.St} {H1 : Hp} {D : Addr} {Qd : Hp → Prop} (Pv : Nat → Hp → Prop) (h0 : Pv 0 (upd H1 D (.lst []))) (hl : ∀ i H, Pv i H → SqT K H a xs)
    (hs : ∀ i x T H, xs[i]? = some x → Pv i H → H T = none → g (.ref T) (wipe σ vs) (upd H T (.tup [.int (i : Nat), x])) fun σ2 H2 => wipe σ2 vs = wipe σ vs ∧ tt σ2 H2 fun b H3 =>
      if b = true then te σ2 H3 fun y H4 => ∃ acc, H4 D = some (.lst acc) ∧ acc.length < sizeLine ∧ Pv (i + 1) (upd H4 D (.lst (acc ++ [y]))) else Pv (i + 1) H3) (hd : ∀ H, Pv xs.length H → Qd H) :
    ∃ W : Nat → Nat → Hp → Prop, (∃ m, W 0 m (upd H1 D (.lst []))) ∧ ∀ i m H, W i m H →
      ((IteT K a).stop i H ∧ Qd H) ∨ ((IteT K a).go i H ∧ ∃ Nx : Hp → Prop, (∀ H', Nx H' → ∃ m', m' < m ∧ W (i + 1) m' H') ∧ ∀ x H', (IteT K a).yld i H x H' → g x (wipe σ vs) H' fun σ2 H2 => wipe σ2 vs = wipe σ vs ∧ tt σ2 H2 fun b H3 =>
        if b = true then te σ2 H3 fun y H4 => ∃ acc, H4 D = some (.lst acc) ∧ acc.length < sizeLine ∧ Nx (upd H4 D (.lst (acc ++ [y]))) else Nx H3) := by
  refine ⟨fun i m H => i + m = xs.length ∧ Pv i H, ⟨xs.length, Nat.zero_add _, h0⟩, fun i m H ⟨hm, p⟩ => ?_⟩
  have q := hl i H p
  by_cases lt : i < xs.length
  · refine .inr ⟨⟨xs, xs[i], q, List.getElem?_eq_getElem lt⟩, Pv (i + 1), fun H' p' => ⟨m - 1, by omega, by omega, p'⟩, ?_⟩
    rintro x H' ⟨T, y, rfl, nT, rfl, f⟩
    have ey := Option.some.inj ((f xs q).symm.trans (List.getElem?_eq_getElem lt))
    subst ey
    exact hs i _ T H (List.getElem?_eq_getElem lt) p nT
  · have e : i = xs.length := by omega
    subst e
    exact .inl ⟨⟨xs, q, Nat.le_refl _⟩, hd H p⟩
end Es
set_option Elab.async false
set_option linter.all false
set_option maxRecDepth 100000
set_option maxHeartbeats 4000000
namespace Es
open PySem PySem.Spec PyProof.Rows L2
def keptB (bs : List Nat) (ls : List (Nat × Nat)) : Bool := ls.any fun l => decide (wsum l.1 bs % 2 = l.2)
def Reach (bs : List Nat) (ls : List (Nat × Nat)) : Prop := ∀ l ∈ ls, ∀ u ∈ bts l.1, u < bs.length
def missI (cs : List (List (Nat × Nat))) (bs : List Nat) : List Nat := (List.range cs.length).filter fun i => !keptB bs (cs.getD i [])
def sp_keeps (K : PySem.W.Frag) : Sp := fun vs H Q _ => ∃ (v : V) (b : Addr) (ls : List (Nat × Nat)) (bs : List Nat), vs = [v, .ref b] ∧ LinesV K H v ls ∧ SqT K H b (iv bs) ∧ Reach bs ls ∧ ∀ H', Same H H' → Q (.bl (keptB bs ls)) H'
def sp_keeps_all (K : PySem.W.Frag) : Sp := fun vs H Q _ => ∃ (a b : Addr) (us : List V) (cs : List (List (Nat × Nat))) (bs : List Nat), vs = [.ref a, .ref b] ∧ SqL K H a us ∧ Paired (LinesV K H) us cs ∧ SqT K H b (iv bs) ∧ (∀ ls ∈ cs, Reach bs ls) ∧
  ∀ H', Same H H' → Q (.bl (cs.all (keptB bs))) H'
def sp_missed (K : PySem.W.Frag) : Sp := fun vs H Q _ => ∃ (v : V) (b : Addr) (n : Nat) (cs : List (List (Nat × Nat))) (bs : List Nat), vs = [v, .ref b] ∧ BookV K H v n cs ∧ SqT K H b (iv bs) ∧ (∀ ls ∈ cs, Reach bs ls) ∧ cs.length ≤ 900 ∧
  ∀ H' p, Same H H' → H p = none → H' p = some (.lst (iv (missI cs bs))) → Q (.ref p) H'
def sp_with_clause (K : PySem.W.Frag) : Sp := fun vs H Q _ => ∃ (v u : V) (n : Nat) (cs : List (List (Nat × Nat))) (ls : List (Nat × Nat)), vs = [v, u] ∧ BookV K H v n cs ∧ LinesV K H u ls ∧ cs.length ≤ 900 ∧ ∀ H' w, Same H H' → BookV K H' w n (cs ++ [ls]) → Q w H'
def sp_without_clause (K : PySem.W.Frag) : Sp := fun vs H Q _ => ∃ (v : V) (i n : Nat) (cs : List (List (Nat × Nat))), vs = [v, .int (i : Int)] ∧ BookV K H v n cs ∧ i < cs.length ∧ cs.length ≤ 900 ∧ ∀ H' w, Same H H' → BookV K H' w n (cs.take i ++ cs.drop (i + 1)) → Q w H'
def sp_law_all_kept (K : PySem.W.Frag) : Sp := fun vs H Q _ => ∃ (v : V) (a : Addr) (us : List V) (n : Nat) (cs : List (List (Nat × Nat))), vs = [v, .ref a] ∧ RoomV K H v n ∧ n ≤ 7 ∧ SqT K H a us ∧ Paired (LinesV K H) us cs ∧ (∀ ls ∈ cs, ∀ l ∈ ls, l.1 < 2 ^ n ∧ l.2 < 2) ∧
  ∀ x, BitsOf (2 ^ n) x (fun s => cs.all fun ls => ls.any fun l => holdsB l (fS n s)) → Q (.int (x : Int)) H
theorem missI_snoc {cs : List (List (Nat × Nat))} {bs : List Nat} {i : Nat} : (((List.range (i + 1)).filter fun i => !keptB bs (cs.getD i []))) = ((List.range i).filter fun i => !keptB bs (cs.getD i [])) ++ (if keptB bs (cs.getD i []) = true then [] else [i]) := by
  rw [List.range_succ, List.filter_append]
  congr 1
  by_cases c : keptB bs (cs.getD i []) = true
  · rw [if_pos c, List.filter_cons, c]
    rfl
  · rw [if_neg c, List.filter_cons, Bool.eq_false_iff.mpr c]
    rfl
theorem cut_use {K : PySem.W.Frag} {H : Hp} {a : Addr} {xs : List V} {lo hi : Option Int} {Q : VK} (h : SqT K H a xs) (k : ∀ H' p, Same H H' → SqT K H' p (cutV xs lo hi) → Q (.ref p) H') : rSlA K (.ref a) lo hi H Q := by
  refine ⟨a, xs, rfl, h, fun ⟨w1, w2⟩ => k H a (Same.refl _) ?_, fun w p np => k _ p (same_new np) (.inl (.inl upd_same))⟩
  have e : cutV xs lo hi = xs := by simp [cutV, w1, w2]
  rw [e]
  exact h
theorem cut_fromU {K : PySem.W.Frag} {σ : L2.St} {H : Hp} {a : Addr} {xs : List V} {lo : Option Int} {Q : VK} (h : SqT K H a xs) (k : ∀ H' p, Same H H' → SqT K H' p (cutV xs lo none) → Q (.ref p) H') : tNoPart σ H fun u H3 => rSlA K (.ref a) lo u H3 Q := cut_use h k
def sp_law_is_missed_right (K : PySem.W.Frag) : Sp := fun vs H Q _ => ∃ (b c : Addr) (v : V) (n : Nat) (cs : List (List (Nat × Nat))), vs = [.ref b, v] ∧ BagAt K H b c ∧ BookV K H v n cs ∧ n ≤ 62 ∧ (∀ ls ∈ cs, ClOkW n ls) ∧ cs.length ≤ 240 ∧
  ∀ H', But b H H' → BagAt K H' b c → Q (.bl true) H'
theorem ne_bagK {K : PySem.W.Frag} {H : Hp} {b c p : Addr} (B : BagAt K H b c) (n : H p = none) : p ≠ b := by
  obtain ⟨y, e⟩ := B.lst
  exact (ne_of_none e n).symm
theorem inV_true (ws : List Bool) : inV (.bl true) (ws.map V.bl) = ws.any id := by
  unfold inV
  rw [List.any_map]
  congr 1
  funext w
  cases w <;> rfl
theorem bools_dpK {K : PySem.W.Frag} {H : Hp} : ∀ ws : List Bool, DpAll K H (ws.map V.bl) (ws.map .bool)
  | [] => .nil
  | w :: ws => .cons (.bl w) (bools_dpK ws)
theorem bools_nice : ∀ ws : List Bool, niceAll (ws.map .bool) = true ∧ PyData.depthAll (ws.map .bool) = 0 ∧ PyData.weightAll (ws.map .bool) = ws.length
  | [] => ⟨rfl, rfl, rfl⟩
  | w :: ws => by
    obtain ⟨a, b, c⟩ := bools_nice ws
    refine ⟨?_, ?_, ?_⟩
    · show (nice (.bool w) && niceAll (ws.map .bool)) = true
      rw [a]
      rfl
    · show max 0 (PyData.depthAll (ws.map .bool)) = 0
      rw [b]
      rfl
    · show 0 + 1 + PyData.weightAll (ws.map .bool) = ws.length + 1
      rw [c]
      omega
theorem weightAll_ivK : ∀ {l : List Nat}, (∀ n ∈ l, n < 10 ^ 12) → PyData.weightAll ((l.map Int.ofNat).map .int) ≤ 42 * l.length
  | [], _ => Nat.le_refl _
  | n :: l, h => by
    have a := weightAll_ivK (l := l) fun x m => h x (List.mem_cons_of_mem _ m)
    have b : (PyData.int (Int.ofNat n)).weight ≤ 41 := by
      simp only [PyData.weight]
      have hn := h n List.mem_cons_self
      by_cases z : n = 0
      · rw [z]
        decide
      · have : n.log2 < 40 := (Nat.log2_lt z).mpr (Nat.lt_of_lt_of_le hn (by decide))
        have e : (Int.ofNat n).natAbs = n := rfl
        rw [e]
        split <;> omega
    show (PyData.int (Int.ofNat n)).weight + 1 + PyData.weightAll ((l.map Int.ofNat).map .int) ≤ 42 * (l.length + 1)
    omega
theorem weight_ivK {l : List Nat} (hl : l.length ≤ 240) (h : ∀ n ∈ l, n < 10 ^ 12) : (PyData.list ((l.map Int.ofNat).map .int)).weight ≤ 2 ^ 20 := by
  have := weightAll_ivK h
  show PyData.weightAll _ ≤ 2 ^ 20
  omega
def sp_clauses_of (K : PySem.W.Frag) : Sp := fun vs H Q _ => ∃ (v : V) (q : Addr) (n : Nat) (cs : List (List (Nat × Nat))) (js : List Nat), vs = [v, .ref q] ∧ BookV K H v n cs ∧ SqT K H q (iv js) ∧ (∀ j ∈ js, j < cs.length) ∧ js.length ≤ 900 ∧
  ∀ H' w, Same H H' → BookV K H' w n (js.map fun j => cs.getD j []) → Q w H'
end Es
set_option Elab.async false
set_option linter.all false
set_option maxRecDepth 100000
set_option maxHeartbeats 4000000
namespace Es
open PySem PySem.Spec PyProof.Rows L2
def rMaxD (K : PySem.W.Frag) : List V → List V → Hp → VK → Prop := fun vs zs H Q => ∃ (a : Addr) (ns : List Int) (d : Int), vs = [.ref a] ∧ zs = [.int d] ∧ SqL K H a (ns.map V.int) ∧
  (ns = [] → Q (.int d) H) ∧ ∀ y ys, ns = y :: ys → Q (.int (ys.foldl (fun a y => if a < y then y else a) y)) H
theorem ints_readAll {h : Heap} : ∀ {ns : List Int} {us : List Value}, Vals (ns.map V.int) us → ∃ as, ReadsAll h us (ns.map PyData.int) as
  | [], _, .nil => ⟨_, .nil⟩
  | n :: ns, _, .cons r t => by
    obtain ⟨tk, rfl⟩ := r
    obtain ⟨as, q⟩ := ints_readAll (h := h) t
    exact ⟨_, .cons (.int n tk) q⟩
theorem cr_maxD {X : Cx} (hc : X.calm = true) (hu : X.A.units + 64 < cLine) : CallRK X (.builtin "max") [Str.ofString "default"] (rMaxD X.K) := by
  intro pins s σ H vs zs us ws Q I r rz h
  obtain ⟨a, ns, d, rfl, rfl, hs, q0, q1⟩ := h
  rw [Vals.ref1 r]
  obtain ⟨w1, rfl, t, rfl⟩ := vals1 rz
  obtain ⟨its, rv, pl, hz⟩ := I.list hs
  obtain ⟨as, rd⟩ := ints_readAll (h := s.heap) rv
  have HA : PySem.W.HoldAll s.heap its.toArray.toList ns := ⟨as, rd⟩
  have lt : ∀ x y : Int, PySem.W.DatumOrd.lt x y = decide (x < y) := fun x y => rfl
  refine PySem.W.max_list_datum_default (I.ok.hd hc) pl.isList HA (show X.A.units + 1 + 0 < cLine by omega) (fun e h' tk k => ⟨.int d, H, I.kept (t' := tk) k, ⟨t, rfl⟩, q0 e⟩) fun y ys i v h' tk e hv ho k => ?_
  obtain ⟨bs, rr⟩ := ho
  have ez : PySem.W.maxOf y ys = ys.foldl (fun a y => if a < y then y else a) y := by
    unfold PySem.W.maxOf
    congr 1
    funext a b
    rw [lt]
    by_cases c : a < b
    · rw [if_pos (decide_eq_true c), if_pos c]
    · rw [if_neg (fun z => c (of_decide_eq_true z)), if_neg c]
  rw [ez] at rr
  have rr : Reads h' v (.int (ys.foldl (fun a y => if a < y then y else a) y)) bs := rr
  cases rr with
  | int _ t2 => exact ⟨.int _, H, I.kept (t' := tk) k, ⟨t2, rfl⟩, q1 y ys e⟩
def lastU (ls : List (Nat × Nat)) : Int :=
  match ls.map fun l => (((bts l.1).getLast?.getD 0 : Nat) : Int) with
  | [] => -1
  | y :: ys => ys.foldl (fun a y => if a < y then y else a) y
def sp_last_unknown (K : PySem.W.Frag) : Sp := fun vs H Q _ => ∃ (v : V) (ls : List (Nat × Nat)), vs = [v] ∧ LinesV K H v ls ∧ (∀ l ∈ ls, bts l.1 ≠ []) ∧ ls.length ≤ 900 ∧ ∀ H', Same H H' → Q (.int (lastU ls)) H'
end Es
set_option Elab.async false
set_option linter.all false
set_option maxRecDepth 100000
set_option maxHeartbeats 4000000
namespace Es
open PySem PySem.Spec PyProof.Rows L2
theorem ps_no {X : Cx} {st : Stmt} : PS X st (fun _ _ _ => False) := ⟨fun _ _ _ _ _ _ h => h.elim⟩
theorem room65 {k : Nat} {A : Around} (r : Room k A) : A.units + 65 < cLine := by
  have := r.un
  omega
theorem pe_globI {X : Cx} {x : Str} {i : Int} {pos : Pos} (hg : Gl X x) (hm : ∃ t, X.mg x = some (.int i t)) (hd : (x == ("__debug__" : Str)) = false := by decide) : PE X (.Name x pos) (tC (.int i)) := by
  obtain ⟨t, h⟩ := hm
  exact pe_glob hg h ⟨t, rfl⟩ hd
def rInDT (K : PySem.W.Frag) : R2 := fun x y H Q => ∃ d ds, Dp K H x d ∧ Dp K H y (.tuple ds) ∧ SeqAt.shaped d = true ∧ SeqAt.shaped (.tuple ds) = true ∧ Q (.bl (ds.any fun z => PyData.eqv z d)) H
theorem op_inDT {X : Cx} (hu : X.A.units + 65 < cLine) : OpR X (compareOp .In) (rInDT X.K) := by
  intro pins s σ H x y v u Q I rx ry h
  obtain ⟨d, ds, hd, he, sd, se, q⟩ := h
  obtain ⟨as, r1⟩ := Dp.reads I d x v hd rx
  obtain ⟨bs, r2⟩ := Dp.reads I (.tuple ds) y u he ry
  exact SeqAt.in_tuple_reads r2 r1 (SeqAt.canLay_of_shaped se) (SeqAt.canLay_of_shaped sd) (room_in_shaped sd hu) ⟨.bl _, H, I, rfl, q⟩
def clsD (cs : List (List (Nat × Nat))) : List PyData := cs.map fun ls => .tuple (ls.map lineD)
theorem dpAll_cls {K : PySem.W.Frag} {H : Hp} : ∀ {us : List V} {cs : List (List (Nat × Nat))}, Paired (LinesV K H) us cs → DpAll K H us (clsD cs)
  | _, _, .nil => .nil
  | _, _, .cons h t => .cons (dp_linesV h) (dpAll_cls t)
theorem clsD_has {cs : List (List (Nat × Nat))} : ((clsD cs).any fun z => PyData.eqv z (.tuple [])) = cs.any List.isEmpty := by
  unfold clsD
  rw [List.any_map]
  congr 1
  funext ls
  cases ls with
  | nil => decide
  | cons l ls => rfl
theorem clsD_depth (cs : List (List (Nat × Nat))) : PyData.depthAll (clsD cs) ≤ 10 := by
  induction cs with
  | nil => decide
  | cons ls cs ih =>
    have a := depth_lines ls
    show max (PyData.depth (.tuple (ls.map lineD))) (PyData.depthAll (clsD cs)) ≤ 10
    have : PyData.depth (.tuple (ls.map lineD)) = PyData.depthAll (ls.map lineD) + 1 := by rw [PyData.depth]
    omega
theorem shaped_cls {cs : List (List (Nat × Nat))} (h : ∀ ls ∈ cs, ∀ l ∈ ls, l.2 < 2) : SeqAt.shaped (.tuple (clsD cs)) = true := by
  refine nice_shaped (niceAll_iff.mpr fun x hx => ?_) ?_
  · obtain ⟨ls, hl, rfl⟩ := List.mem_map.mp hx
    exact nice_lines (h ls hl)
  · have := clsD_depth cs
    rw [PyData.depth]
    omega
def modM (cs : List (List (Nat × Nat))) : Nat → List (List Nat)
  | 0 => if cs.any List.isEmpty then [] else [[]]
  | i + 1 => ((modM cs i).flatMap fun bs => [bs ++ [0], bs ++ [1]]).filter fun bs => (cs.filter fun ls => decide (lastU ls = (i : Int))).all (keptB bs)
theorem modM_len (cs : List (List (Nat × Nat))) : ∀ i, (modM cs i).length ≤ 2 ^ i
  | 0 => by
    unfold modM
    split <;> decide
  | i + 1 => by
    have := modM_len cs i
    unfold modM
    refine Nat.le_trans (List.length_filter_le _ _) ?_
    have e : ((modM cs i).flatMap fun bs => [bs ++ [0], bs ++ [1]]).length = 2 * (modM cs i).length := two_len _ _ _
    rw [e, Nat.pow_succ]
    omega
theorem modM_bits (cs : List (List (Nat × Nat))) : ∀ i, ∀ bs ∈ modM cs i, bs.length = i
  | 0, bs, h => by
    unfold modM at h
    split at h
    · cases h
    · rw [List.mem_singleton.mp h]
      rfl
  | i + 1, bs, h => by
    unfold modM at h
    obtain ⟨h, _⟩ := List.mem_filter.mp h
    obtain ⟨b, hb, h⟩ := List.mem_flatMap.mp h
    have := modM_bits cs i b hb
    rcases List.mem_cons.mp h with rfl | h
    · simp [this]
    · rw [List.mem_singleton.mp h]
      simp [this]
def BitT (K : PySem.W.Frag) (H : Hp) (v : V) (bs : List Nat) : Prop := ∃ b, v = .ref b ∧ SqT K H b (iv bs)
def sp_models_of (K : PySem.W.Frag) : Sp := fun vs H Q _ => ∃ (v : V) (n : Nat) (cs : List (List (Nat × Nat))), vs = [v] ∧ BookV K H v n cs ∧ n ≤ 12 ∧ (∀ ls ∈ cs, (∀ l ∈ ls, l.1 < 2 ^ n ∧ l.2 < 2 ∧ bts l.1 ≠ []) ∧ ls.length ≤ 900) ∧ cs.length ≤ 900 ∧
  ∀ H' p zs, Same H H' → H p = none → H' p = some (.lst zs) → Paired (BitT K H') zs (modM cs n) → Q (.ref p) H'
theorem same_free {G H : Hp} {p : Addr} (s : Same G H) (n : H p = none) : G p = none := by
  cases e : G p with
  | none => rfl
  | some o =>
    rw [s _ _ e] at n
    cases n
theorem begin_join {K : PySem.W.Frag} {b : Bool} {σ : L2.St} {H : Hp} {Q : VK} (h : ∀ H1 p zs, Same H H1 → H p = none → H1 p = some (.lst zs) → Paired (BitT K H1) zs (if b then [] else [[]]) → Q (.ref p) H1) :
    if b = true then tLst tNil σ H Q else tLst (tCons (tTup tNil) tNil) σ H Q := by
  cases b with
  | true =>
    rw [if_pos rfl]
    exact ⟨Nat.zero_le _, fun l nl => h _ l [] (same_new nl) nl upd_same .nil⟩
  | false =>
    rw [if_neg Bool.false_ne_true]
    refine ⟨Nat.zero_le _, fun e ne => ?_⟩
    have r1 := same_new (o := .tup []) ne
    refine ⟨(by show 1 ≤ sizeLine; decide), fun l nl => ?_⟩
    have r2 := same_new (o := .lst [V.ref e]) nl
    exact h _ l [.ref e] (r1.trans r2) (same_free r1 nl) upd_same (.cons ⟨e, rfl, .inl (.inl (r2 _ _ upd_same))⟩ .nil)
theorem foldMax_ge : ∀ (ys : List Int) (a : Int), a ≤ ys.foldl (fun a y => if a < y then y else a) a ∧ ∀ y ∈ ys, y ≤ ys.foldl (fun a y => if a < y then y else a) a
  | [], a => ⟨Int.le_refl _, fun y h => by cases h⟩
  | z :: ys, a => by
    obtain ⟨h1, h2⟩ := foldMax_ge ys (if a < z then z else a)
    rw [List.foldl_cons]
    refine ⟨Int.le_trans (by split <;> omega) h1, fun y h => ?_⟩
    rcases List.mem_cons.mp h with rfl | h
    · exact Int.le_trans (by split <;> omega) h1
    · exact h2 y h
theorem last_ge {l : List Nat} (h : l.Pairwise (· < ·)) {u : Nat} (m : u ∈ l) : u ≤ l.getLast?.getD 0 := by
  rcases List.eq_nil_or_concat l with e | ⟨q, z, e⟩
  · rw [e] at m
    cases m
  · have e : l = q ++ [z] := by simpa using e
    rw [e] at h m ⊢
    rw [List.getLast?_append]
    show u ≤ z
    rcases List.mem_append.mp m with m | m
    · exact Nat.le_of_lt ((List.pairwise_append.mp h).2.2 u m z List.mem_cons_self)
    · rw [List.mem_singleton.mp m]
      exact Nat.le_refl _
theorem lastU_ge {ls : List (Nat × Nat)} {l : Nat × Nat} (hl : l ∈ ls) {u : Nat} (hu : u ∈ bts l.1) : (u : Int) ≤ lastU ls := by
  have a : ((((bts l.1).getLast?.getD 0 : Nat)) : Int) ∈ ls.map fun l => (((bts l.1).getLast?.getD 0 : Nat) : Int) := List.mem_map.mpr ⟨l, hl, rfl⟩
  have b := last_ge (bts_lt l.1) hu
  unfold lastU
  generalize (ls.map fun l => (((bts l.1).getLast?.getD 0 : Nat) : Int)) = z at a
  cases z with
  | nil => cases a
  | cons y ys =>
    obtain ⟨h1, h2⟩ := foldMax_ge ys y
    show _ ≤ ys.foldl (fun a y => if a < y then y else a) y
    rcases List.mem_cons.mp a with e | m
    · omega
    · have := h2 _ m
      omega
theorem BitT.same {K : PySem.W.Frag} {H H' : Hp} {v : V} {bs : List Nat} (s : Same H H') (h : BitT K H v bs) : BitT K H' v bs := by
  obtain ⟨b, rfl, h⟩ := h
  exact ⟨b, rfl, sqT_same s h⟩
theorem BitT.but {K : PySem.W.Frag} {H H' : Hp} {v : V} {bs : List Nat} {b : Addr} {ys : List V} (hb : H b = some (.lst ys)) (s : But b H H') (h : BitT K H v bs) : BitT K H' v bs := by
  obtain ⟨a, rfl, h⟩ := h
  exact ⟨a, rfl, sqT_but hb s h⟩
end Es
set_option Elab.async false
set_option linter.all false
set_option maxRecDepth 100000
set_option maxHeartbeats 4000000
namespace Es
open PySem PySem.Spec PyProof.Rows L2
def Solv (ms : List Nat) : Prop := ∀ b : Nat → Bool, ∃ f : Nat → Bool, ∀ i m, ms[i]? = some m → par m f = b i
theorem Solv.ne {ms : List Nat} (h : Solv ms) {m : Nat} (hm : m ∈ ms) : m ≠ 0 := by
  rintro rfl
  obtain ⟨i, hi⟩ := List.getElem?_of_mem hm
  obtain ⟨f, hf⟩ := h fun _ => true
  have := hf i 0 hi
  rw [par_zero] at this
  cases this
theorem Solv.set {ms : List Nat} (h : Solv ms) {i j x y : Nat} (hi : ms[i]? = some x) (hj : ms[j]? = some y) (n : i ≠ j) : Solv (ms.set i (x ^^^ y)) := by
  intro b
  obtain ⟨f, hf⟩ := h fun k => if k = i then b i ^^ b j else b k
  refine ⟨f, fun k m hk => ?_⟩
  have hl : i < ms.length := (List.getElem?_eq_some_iff.mp hi).1
  by_cases z : k = i
  · subst z
    rw [List.getElem?_set_self hl] at hk
    have hk := Option.some.inj hk
    subst hk
    have h1 := hf k x hi
    have h2 := hf j y hj
    have h1 : par x f = if k = k then b k ^^ b j else b k := h1
    have h2 : par y f = if j = k then b k ^^ b j else b j := h2
    rw [if_pos rfl] at h1
    rw [if_neg (Ne.symm n)] at h2
    rw [par_xor, h1, h2]
    cases b k <;> cases b j <;> rfl
  · rw [List.getElem?_set_ne (Ne.symm z)] at hk
    have h1 := hf k m hk
    have h1 : par m f = if k = i then b i ^^ b j else b k := h1
    rw [if_neg z] at h1
    exact h1
theorem Solv.pair {ms : List Nat} (h : Solv ms) {i j x y : Nat} (hi : ms[i]? = some x) (hj : ms[j]? = some y) (n : i ≠ j) : x ^^^ y ≠ 0 :=
  (h.set hi hj n).ne (List.mem_of_getElem? (List.getElem?_set_self (List.getElem?_eq_some_iff.mp hi).1))
theorem canon_solv {hs : List (Nat × Nat × Nat)} (F : FlatOk hs) : Solv ((canon hs).map (·.1)) := by
  intro b
  have ks := srt_lt (hs.map (·.1))
  rw [← byHead_keys] at ks
  have pm := byHead_perm F.red
  obtain ⟨gs, eg⟩ : ∃ gs, gs = byHead hs := ⟨_, rfl⟩
  rw [← eg] at ks pm
  have memK : ∀ h, h ∈ gs.map (·.1) ↔ h ∈ hs.map (·.1) := fun h => (pm.map _).mem_iff
  have ndK : (gs.map (·.1)).Nodup := ks.imp fun z => Nat.ne_of_lt z
  obtain ⟨ws, ew⟩ : ∃ ws : List (Nat × Nat × Nat), ws = gs.mapIdx fun i e => (e.1, e.2.1, if b i = true then 1 else 0) := ⟨_, rfl⟩
  have wk : ws.map (·.1) = gs.map (·.1) := by
    rw [ew]
    refine List.ext_getElem? fun i => ?_
    simp only [List.getElem?_map, List.getElem?_mapIdx]
    cases gs[i]? <;> rfl
  have wm : ∀ e ∈ ws, ∃ g ∈ hs, g.1 = e.1 ∧ g.2.1 = e.2.1 ∧ e.2.2 < 2 := fun e he => by
    obtain ⟨i, hi⟩ := List.getElem?_of_mem he
    rw [ew, List.getElem?_mapIdx] at hi
    cases q : gs[i]? with
    | none => rw [q] at hi; cases hi
    | some g =>
      rw [q] at hi
      have hi := Option.some.inj hi
      subst hi
      refine ⟨g, pm.mem_iff.mp (List.mem_of_getElem? q), rfl, rfl, ?_⟩
      dsimp only
      split <;> decide
  have FW : FlatOk ws := by
    refine ⟨⟨by rw [wk]; exact ndK, fun e he => ?_, fun e he h hh n => ?_⟩, fun e he => ?_, fun e he => ?_⟩
    · obtain ⟨g, hg, e1, e2, _⟩ := wm e he
      rw [← e1, ← e2]
      exact F.red.own g hg
    · obtain ⟨g, hg, e1, e2, _⟩ := wm e he
      rw [wk, memK] at hh
      rw [← e2]
      exact F.red.oth g hg h hh (by rw [e1]; exact n)
    · obtain ⟨g, hg, e1, e2, _⟩ := wm e he
      rw [← e1, ← e2]
      exact F.least g hg
    · obtain ⟨g, hg, e1, e2, e3⟩ := wm e he
      exact e3
  obtain ⟨f, hf⟩ := flat_has FW
  refine ⟨f, fun i m hm => ?_⟩
  unfold canon at hm
  rw [← eg, List.getElem?_map, List.getElem?_map] at hm
  cases q : gs[i]? with
  | none => rw [q] at hm; cases hm
  | some g =>
    rw [q] at hm
    have hm := Option.some.inj hm
    subst hm
    have hw : ws[i]? = some (g.1, g.2.1, if b i = true then 1 else 0) := by rw [ew, List.getElem?_mapIdx, q]; rfl
    have := hf _ (List.mem_of_getElem? hw)
    unfold holdsL at this
    dsimp only at this
    rw [this]
    cases b i <;> rfl
def ClOkZ (n : Nat) (ls : List (Nat × Nat)) : Prop := (∀ l ∈ ls, l.1 < 2 ^ n ∧ l.1 ≠ 0 ∧ l.2 < 2) ∧ ls.length ≤ 7
def sp_law_spokenZ (K : PySem.W.Frag) : Sp := fun vs H Q _ => ∃ (b c : Addr) (v : V) (n : Nat) (ls : List (Nat × Nat)), vs = [.ref b, v] ∧ BagAt K H b c ∧ LinesV K H v ls ∧ (∀ l ∈ ls, l.1 < 2 ^ n ∧ l.2 < 2) ∧ Solv (ls.map (·.1)) ∧ ls.length ≤ 12 ∧ n ≤ 62 ∧
  ∀ H' u ks, But b H H' → BagAt K H' b c → LinesV K H' u ks → (∀ l ∈ ks, l.1 < 2 ^ n ∧ l.1 ≠ 0 ∧ l.2 < 2) → ks.length ≤ max ls.length 6 → Q u H'
def sp_law_any_bookZ (K : PySem.W.Frag) : Sp := fun vs H Q _ => ∃ (b c : Addr) (n k : Nat), vs = [.ref b, .int (n : Int), .int (k : Int)] ∧ BagAt K H b c ∧ n ≤ 62 ∧ k ≤ 57 ∧
  ∀ H' v cs, But b H H' → BagAt K H' b c → BookV K H' v n cs → (∀ ls ∈ cs, ClOkZ n ls) → cs.length ≤ k + 2 → Q v H'
def sp_law_chain_bookZ (K : PySem.W.Frag) : Sp := fun vs H Q _ => ∃ (b c : Addr) (n : Nat), vs = [.ref b, .int (n : Int)] ∧ BagAt K H b c ∧ 0 < n ∧ n ≤ 50 ∧
  ∀ H' v cs, But b H H' → BagAt K H' b c → BookV K H' v n cs → (∀ ls ∈ cs, ClOkZ n ls) → cs.length ≤ n + 3 → Q v H'
def sp_law_planted_bookZ (K : PySem.W.Frag) : Sp := fun vs H Q _ => ∃ (b c : Addr) (n k : Nat), vs = [.ref b, .int (n : Int), .int (k : Int)] ∧ BagAt K H b c ∧ n ≤ 62 ∧ k ≤ 60 ∧
  ∀ H' p v u cs, But b H H' → BagAt K H' b c → H' p = some (.tup [v, u]) → BookV K H' v n cs → (∀ ls ∈ cs, ClOkZ n ls) → cs.length ≤ k → Q (.ref p) H'
def sp_law_cover_bookZ (K : PySem.W.Frag) : Sp := fun vs H Q _ => ∃ (b c : Addr) (n k : Nat), vs = [.ref b, .int (n : Int), .int (k : Int)] ∧ BagAt K H b c ∧ 0 < n ∧ n ≤ 62 ∧ 0 < k ∧ k ≤ 50 ∧
  ∀ H' v cs, But b H H' → BagAt K H' b c → BookV K H' v n cs → (∀ ls ∈ cs, ClOkZ n ls) → 0 < cs.length → cs.length ≤ k → Q v H'
def sp_law_beside_bookZ (K : PySem.W.Frag) : Sp := fun vs H Q _ => ∃ (b c : Addr) (v u : V) (n m B : Nat) (cs ds : List (List (Nat × Nat))), vs = [.ref b, v, u] ∧ BagAt K H b c ∧ BookV K H v n cs ∧ (∀ ls ∈ cs, ClOkZ n ls) ∧ BookV K H u m ds ∧ (∀ ls ∈ ds, ClOkZ m ls) ∧ n + m ≤ 60 ∧ cs.length ≤ B ∧ ds.length ≤ B ∧ B ≤ 120 ∧
  ∀ H' w es, But b H H' → BagAt K H' b c → BookV K H' w (n + m) es → (∀ ls ∈ es, ClOkZ (n + m) ls) → es.length ≤ 2 * B → Q w H'
def sp_law_bookZ (K : PySem.W.Frag) : Sp := fun vs H Q _ => ∃ (b c : Addr) (n k : Nat), vs = [.ref b, .int (n : Int), .int (k : Int)] ∧ BagAt K H b c ∧ 0 < n ∧ n ≤ 48 ∧ 0 < k ∧ k ≤ 48 ∧
  ∀ H' v m cs, But b H H' → BagAt K H' b c → m ≤ n → BookV K H' v m cs → (∀ ls ∈ cs, ClOkZ m ls) → cs.length ≤ k + n + 3 → Q v H'
theorem rgV_nodup (n : Nat) : (rgV 0 (n : Int)).Nodup := by
  rw [rg_iv]
  unfold iv
  refine List.Pairwise.map _ (fun a b (h : a ≠ b) z => h ?_) (show List.Nodup (List.range n) from List.nodup_range)
  injection z with z
  omega
theorem msk_ne {l : List Nat} (nd : l.Nodup) (h : l ≠ []) : msk l ≠ 0 := by
  intro z
  cases l with
  | nil => exact h rfl
  | cons x r =>
    have := msk_bit nd x
    rw [z, Nat.zero_testBit, decide_eq_true List.mem_cons_self] at this
    cases this
theorem bts_ne {m n : Nat} (h : m < 2 ^ n) (hn : n ≤ 63) (z : m ≠ 0) : bts m ≠ [] := by
  intro e
  refine z (Nat.eq_of_testBit_eq fun j => ?_)
  rw [Nat.zero_testBit]
  cases q : m.testBit j with
  | false => rfl
  | true =>
    have : j ∈ bts m := mem_bts.mpr ⟨?_, q⟩
    · rw [e] at this
      cases this
    · refine Nat.lt_of_not_le fun w => ?_
      rw [Nat.testBit_lt_two_pow (Nat.lt_of_lt_of_le h (Nat.pow_le_pow_right (by decide) (by omega)))] at q
      cases q
end Es
set_option Elab.async false
set_option linter.all false
set_option maxRecDepth 100000
set_option maxHeartbeats 4000000
namespace Es
open PySem PySem.Spec PyProof.Rows L2
def sp_law_roomZ (K : PySem.W.Frag) : Sp := fun vs H Q _ => ∃ (n : Nat), vs = [.int (n : Int)] ∧ n ≤ 12 ∧ ∀ H' v, Same H H' → RoomV K H' v n → Q v H'
def sp_law_heldZ (K : PySem.W.Frag) : Sp := fun vs H Q _ => ∃ (v u : V) (n : Nat) (l : Nat × Nat), vs = [v, u] ∧ RoomV K H v n ∧ n ≤ 12 ∧ LineV K H u l ∧ l.1 < 2 ^ n ∧ l.2 < 2 ∧
  ∀ x, BitsOf (2 ^ n) x (fun s => holdsB l (fS n s)) → Q (.int (x : Int)) H
def sp_law_keptZ (K : PySem.W.Frag) : Sp := fun vs H Q _ => ∃ (v u : V) (n : Nat) (ls : List (Nat × Nat)), vs = [v, u] ∧ RoomV K H v n ∧ n ≤ 12 ∧ LinesV K H u ls ∧ (∀ l ∈ ls, l.1 < 2 ^ n ∧ l.2 < 2) ∧
  ∀ x, BitsOf (2 ^ n) x (fun s => ls.any fun l => holdsB l (fS n s)) → Q (.int (x : Int)) H
def sp_law_all_keptZ (K : PySem.W.Frag) : Sp := fun vs H Q _ => ∃ (v : V) (a : Addr) (us : List V) (n : Nat) (cs : List (List (Nat × Nat))), vs = [v, .ref a] ∧ RoomV K H v n ∧ n ≤ 12 ∧ SqT K H a us ∧ Paired (LinesV K H) us cs ∧ (∀ ls ∈ cs, ∀ l ∈ ls, l.1 < 2 ^ n ∧ l.2 < 2) ∧
  ∀ x, BitsOf (2 ^ n) x (fun s => cs.all fun ls => ls.any fun l => holdsB l (fS n s)) → Q (.int (x : Int)) H
def sp_law_bitsZ (K : PySem.W.Frag) : Sp := fun vs H Q _ => ∃ (v : V) (n s : Nat), vs = [v, .int (s : Int)] ∧ RoomV K H v n ∧ n ≤ 12 ∧
  ∀ H' t, Same H H' → H t = none → SqT K H' t (iv (bitsS n s)) → Q (.ref t) H'
def sp_law_leastZ (K : PySem.W.Frag) : Sp := fun vs H Q _ => ∃ (v : V) (n x : Nat), vs = [v, .int (x : Int)] ∧ RoomV K H v n ∧ n ≤ 12 ∧ (x = 0 → Q .non H) ∧
  (∀ s, x.testBit s = true → (∀ j, j < s → x.testBit j = false) → ∀ H' u, Same H H' → BitsV K n H' u s → Q u H')
def sp_law_listedZ (K : PySem.W.Frag) : Sp := fun vs H Q _ => ∃ (v : V) (n x : Nat), vs = [v, .int (x : Int)] ∧ RoomV K H v n ∧ n ≤ 12 ∧ x < 2 ^ 2 ^ n ∧
  ∀ H' p us, Same H H' → H p = none → H' p = some (.lst us) → Paired (BitsV K n H') us ((List.range (2 ^ n)).filter fun s => x.testBit s) → Q (.ref p) H'
def sp_law_inZ (K : PySem.W.Frag) : Sp := fun vs H Q _ => ∃ (v : V) (t : Addr) (us : List V) (n : Nat) (ls : List (Nat × Nat)), vs = [v, .ref t] ∧ RoomV K H v n ∧ n ≤ 12 ∧ SqT K H t us ∧ Paired (LineV K H) us ls ∧ (∀ l ∈ ls, l.1 < 2 ^ n ∧ l.2 < 2) ∧
  ∀ x, BitsOf (2 ^ n) x (fun s => ls.all fun l => holdsB l (fS n s)) → Q (.int (x : Int)) H
theorem small5000 {n : Nat} (h : n ≤ 5000) : n < sizeLine := Nat.lt_of_le_of_lt h (by show 5000 < sizeLine; decide)
end Es
set_option Elab.async false
set_option linter.all false
set_option maxRecDepth 100000
set_option maxHeartbeats 4000000
namespace Es
open PySem PySem.Spec PyProof.Rows L2
theorem range_two : ∀ N : Nat, List.range (2 * N) = (List.range N).flatMap fun s => [2 * s, 2 * s + 1]
  | 0 => rfl
  | N + 1 => by
    rw [show 2 * (N + 1) = 2 * N + 1 + 1 by omega, List.range_succ, List.range_succ, List.range_succ, List.flatMap_append, range_two N]
    simp
theorem bitsS_snoc {i s b : Nat} (hb : b < 2) : bitsS (i + 1) (2 * s + b) = bitsS i s ++ [b] := by
  unfold bitsS
  rw [List.range_succ, List.map_append]
  congr 1
  · refine List.map_congr_left fun u hu => ?_
    have hu := List.mem_range.mp hu
    rw [show i + 1 - 1 - u = (i - 1 - u) + 1 by omega, Nat.testBit_succ, show (2 * s + b) / 2 = s by omega]
  · rw [List.map_cons, List.map_nil, show i + 1 - 1 - i = 0 by omega, Nat.testBit_zero]
    have : b = 0 ∨ b = 1 := by omega
    rcases this with rfl | rfl
    · rw [show (2 * s + 0) % 2 = 0 by omega]; rfl
    · rw [show (2 * s + 1) % 2 = 1 by omega]; rfl
theorem wsum_app {m b : Nat} {bs : List Nat} (h : ∀ u ∈ bts m, u < bs.length) : wsum m (bs ++ [b]) = wsum m bs := by
  unfold wsum
  congr 1
  refine List.map_congr_left fun u hu => ?_
  rw [List.getD_eq_getElem?_getD, List.getD_eq_getElem?_getD, List.getElem?_append_left (h u hu)]
theorem keptB_app {b : Nat} {bs : List Nat} {ls : List (Nat × Nat)} (h : Reach bs ls) : keptB (bs ++ [b]) ls = keptB bs ls := by
  unfold keptB
  refine Bool.eq_iff_iff.mpr ?_
  simp only [List.any_eq_true]
  constructor
  · rintro ⟨l, hl, e⟩
    exact ⟨l, hl, by rwa [wsum_app (h l hl)] at e⟩
  · rintro ⟨l, hl, e⟩
    exact ⟨l, hl, by rwa [wsum_app (h l hl)]⟩
def modS (cs : List (List (Nat × Nat))) (i : Nat) : List Nat := (List.range (2 ^ i)).filter fun s => (cs.filter fun ls => decide (lastU ls < (i : Int))).all (keptB (bitsS i s))
theorem lastU_nil : lastU [] = -1 := rfl
theorem lastU_pos {ls : List (Nat × Nat)} (h : ls ≠ []) : 0 ≤ lastU ls := by
  cases ls with
  | nil => exact absurd rfl h
  | cons l r =>
    unfold lastU
    rw [List.map_cons]
    have := (foldMax_ge (r.map fun l => (((bts l.1).getLast?.getD 0 : Nat) : Int)) (((bts l.1).getLast?.getD 0 : Nat) : Int)).1
    show 0 ≤ List.foldl _ _ _
    omega
theorem mod_step {i : Nat} {Q : Nat → Bool} {P : List Nat → Bool} {R : Nat → Bool} (e0 : ∀ s, R (2 * s) = (Q s && P (bitsS i s ++ [0]))) (e1 : ∀ s, R (2 * s + 1) = (Q s && P (bitsS i s ++ [1]))) :
    ∀ L : List Nat, ((((L.filter Q).map (bitsS i)).flatMap fun bs => [bs ++ [0], bs ++ [1]]).filter P) = ((L.flatMap fun s => [2 * s, 2 * s + 1]).filter R).map (bitsS (i + 1))
  | [] => rfl
  | s :: L => by
    have ih := mod_step e0 e1 L
    have b0 : bitsS (i + 1) (2 * s) = bitsS i s ++ [0] := bitsS_snoc (b := 0) (by decide)
    have b1 : bitsS (i + 1) (2 * s + 1) = bitsS i s ++ [1] := bitsS_snoc (b := 1) (by decide)
    rw [List.flatMap_cons, List.filter_append, List.map_append, ← ih, List.filter_cons]
    cases q : Q s with
    | false =>
      rw [if_neg Bool.false_ne_true]
      have r0 : R (2 * s) = false := by rw [e0, q]; rfl
      have r1 : R (2 * s + 1) = false := by rw [e1, q]; rfl
      rw [List.filter_cons, List.filter_cons, r0, r1]
      rfl
    | true =>
      rw [if_pos rfl, List.map_cons, List.flatMap_cons, List.filter_append]
      congr 1
      have r0 : R (2 * s) = P (bitsS i s ++ [0]) := by rw [e0, q]; rfl
      have r1 : R (2 * s + 1) = P (bitsS i s ++ [1]) := by rw [e1, q]; rfl
      rw [List.filter_cons, List.filter_cons, List.filter_cons, List.filter_cons, r0, r1]
      cases P (bitsS i s ++ [0]) <;> cases P (bitsS i s ++ [1]) <;> simp [b0, b1]
theorem modM_eq (cs : List (List (Nat × Nat))) : ∀ i, modM cs i = (modS cs i).map (bitsS i)
  | 0 => by
    have e : modS cs 0 = if cs.any List.isEmpty then [] else [0] := by
      unfold modS
      rw [show (2 : Nat) ^ 0 = 1 from rfl, show List.range 1 = [0] from rfl, List.filter_cons]
      have q : (cs.filter fun ls => decide (lastU ls < ((0 : Nat) : Int))).all (keptB (bitsS 0 0)) = !(cs.any List.isEmpty) := by
        rw [Bool.eq_iff_iff, Bool.not_eq_true', List.all_eq_true, ← Bool.not_eq_true, List.any_eq_true]
        constructor
        · rintro h ⟨ls, hl, z⟩
          have z : ls = [] := List.isEmpty_iff.mp z
          subst z
          have := h [] (List.mem_filter.mpr ⟨hl, by decide⟩)
          cases this
        · intro h ls hl
          obtain ⟨h1, h2⟩ := List.mem_filter.mp hl
          have h2 := of_decide_eq_true h2
          refine absurd ⟨ls, h1, ?_⟩ h
          cases ls with
          | nil => rfl
          | cons l r =>
            have := lastU_pos (ls := l :: r) (by simp)
            omega
      rw [q]
      cases cs.any List.isEmpty <;> rfl
    rw [e]
    unfold modM
    cases cs.any List.isEmpty <;> rfl
  | i + 1 => by
    have ih := modM_eq cs i
    rw [show modM cs (i + 1) = ((modM cs i).flatMap fun bs => [bs ++ [0], bs ++ [1]]).filter fun bs => (cs.filter fun ls => decide (lastU ls = (i : Int))).all (keptB bs) from rfl, ih]
    unfold modS
    have key : ∀ s b : Nat, b < 2 → ((cs.filter fun ls => decide (lastU ls < ((i + 1 : Nat) : Int))).all (keptB (bitsS (i + 1) (2 * s + b)))) =
        (((cs.filter fun ls => decide (lastU ls < (i : Int))).all (keptB (bitsS i s))) && ((cs.filter fun ls => decide (lastU ls = (i : Int))).all (keptB (bitsS i s ++ [b])))) := by
      intro s b hb
      rw [bitsS_snoc hb]
      have re : ∀ ls, lastU ls < (i : Int) → Reach (bitsS i s) ls := fun ls h l hl u hu => by
        have := lastU_ge hl hu
        rw [bitsS_len]
        omega
      rw [Bool.eq_iff_iff, Bool.and_eq_true, List.all_eq_true, List.all_eq_true, List.all_eq_true]
      constructor
      · intro h
        refine ⟨fun ls hl => ?_, fun ls hl => ?_⟩
        · obtain ⟨h1, h2⟩ := List.mem_filter.mp hl
          have h2 := of_decide_eq_true h2
          rw [← keptB_app (b := b) (re ls h2)]
          exact h ls (List.mem_filter.mpr ⟨h1, decide_eq_true (by omega)⟩)
        · obtain ⟨h1, h2⟩ := List.mem_filter.mp hl
          have h2 := of_decide_eq_true h2
          exact h ls (List.mem_filter.mpr ⟨h1, decide_eq_true (by omega)⟩)
      · rintro ⟨h1, h2⟩ ls hl
        obtain ⟨g1, g2⟩ := List.mem_filter.mp hl
        have g2 := of_decide_eq_true g2
        by_cases z : lastU ls = (i : Int)
        · exact h2 ls (List.mem_filter.mpr ⟨g1, decide_eq_true z⟩)
        · have lt : lastU ls < (i : Int) := by omega
          rw [keptB_app (re ls lt)]
          exact h1 ls (List.mem_filter.mpr ⟨g1, decide_eq_true lt⟩)
    rw [show 2 ^ (i + 1) = 2 * 2 ^ i by rw [Nat.pow_succ]; omega, range_two]
    exact mod_step (R := fun t => (cs.filter fun ls => decide (lastU ls < ((i + 1 : Nat) : Int))).all (keptB (bitsS (i + 1) t))) (fun s => key s 0 (by decide)) (fun s => key s 1 (by decide)) _
theorem foldMax_le : ∀ (ys : List Int) (a B : Int), a < B → (∀ y ∈ ys, y < B) → ys.foldl (fun a y => if a < y then y else a) a < B
  | [], a, B, h, _ => h
  | z :: ys, a, B, h, k => by
    rw [List.foldl_cons]
    refine foldMax_le ys _ B ?_ fun y hy => k y (List.mem_cons_of_mem _ hy)
    have := k z List.mem_cons_self
    split <;> omega
theorem lastU_lt {n : Nat} {ls : List (Nat × Nat)} (h : ∀ l ∈ ls, l.1 < 2 ^ n ∧ bts l.1 ≠ []) : lastU ls < (n : Int) := by
  have one : ∀ l ∈ ls, ((((bts l.1).getLast?.getD 0 : Nat)) : Int) < (n : Int) := fun l hl => by
    obtain ⟨h1, h2⟩ := h l hl
    have : (bts l.1).getLast?.getD 0 ∈ bts l.1 := by
      rcases List.eq_nil_or_concat (bts l.1) with e | ⟨q, z, e⟩
      · exact absurd e h2
      · have e : bts l.1 = q ++ [z] := by simpa using e
        rw [e]
        simp
    have := bits_below h1 this
    omega
  unfold lastU
  cases ls with
  | nil => show (-1 : Int) < n; omega
  | cons l r =>
    rw [List.map_cons]
    show List.foldl _ _ _ < _
    refine foldMax_le _ _ _ (one l List.mem_cons_self) fun y hy => ?_
    obtain ⟨k, hk, rfl⟩ := List.mem_map.mp hy
    exact one k (List.mem_cons_of_mem _ hk)
theorem wsum_holds {n s : Nat} {l : Nat × Nat} (hl : l.1 < 2 ^ n) (h2 : l.2 < 2) : decide (wsum l.1 (bitsS n s) % 2 = l.2) = holdsB l (fS n s) := by
  have w := wsum_par l.1 (bitsS n s) (bitsS_lt n s)
  unfold holdsL at w
  have e : (fun u => decide ((bitsS n s).getD u 0 = 1)) = fS n s := funext (bitsS_getD n s)
  rw [e] at w
  dsimp only at w
  unfold holdsB
  rw [w]
  have a : wsum l.1 (bitsS n s) % 2 < 2 := Nat.mod_lt _ (by decide)
  generalize wsum l.1 (bitsS n s) % 2 = x at a
  generalize l.2 = y at h2
  have hx : x = 0 ∨ x = 1 := by omega
  have hy : y = 0 ∨ y = 1 := by omega
  rcases hx with rfl | rfl <;> rcases hy with rfl | rfl <;> rfl
theorem modM_all {n : Nat} {cs : List (List (Nat × Nat))} (ok : ∀ ls ∈ cs, ∀ l ∈ ls, l.1 < 2 ^ n ∧ l.2 < 2 ∧ bts l.1 ≠ []) :
    modM cs n = ((List.range (2 ^ n)).filter fun s => cs.all fun ls => ls.any fun l => holdsB l (fS n s)).map (bitsS n) := by
  rw [modM_eq]
  congr 1
  unfold modS
  have e : (cs.filter fun ls => decide (lastU ls < (n : Int))) = cs := List.filter_eq_self.mpr fun ls hl => decide_eq_true (lastU_lt fun l hm => ⟨(ok ls hl l hm).1, (ok ls hl l hm).2.2⟩)
  rw [e]
  refine List.filter_congr fun s _ => ?_
  rw [Bool.eq_iff_iff, List.all_eq_true, List.all_eq_true]
  have k : ∀ ls ∈ cs, keptB (bitsS n s) ls = ls.any fun l => holdsB l (fS n s) := fun ls hl => by
    unfold keptB
    rw [Bool.eq_iff_iff, List.any_eq_true, List.any_eq_true]
    constructor
    · rintro ⟨l, hm, z⟩
      exact ⟨l, hm, by rw [← wsum_holds (ok ls hl l hm).1 (ok ls hl l hm).2.1]; exact z⟩
    · rintro ⟨l, hm, z⟩
      exact ⟨l, hm, by rw [wsum_holds (ok ls hl l hm).1 (ok ls hl l hm).2.1]; exact z⟩
  constructor
  · intro h ls hl
    rw [← k ls hl]
    exact h ls hl
  · intro h ls hl
    rw [k ls hl]
    exact h ls hl
def modD (n : Nat) (cs : List (List (Nat × Nat))) : PyData := .list ((modM cs n).map fun bs => .tuple ((bs.map Int.ofNat).map .int))
theorem dp_modM {K : PySem.W.Frag} {H : Hp} : ∀ {us : List V} {bss : List (List Nat)}, Paired (BitT K H) us bss → DpAll K H us (bss.map fun bs => .tuple ((bs.map Int.ofNat).map .int))
  | _, _, .nil => .nil
  | _, _, .cons ⟨b, e, h⟩ t => by
    subst e
    rw [iv_ints] at h
    exact .cons (.tup h (dp_ints _)) (dp_modM t)
theorem bitsZ_facts {n : Nat} (n12 : n ≤ 12) : ∀ ss : List Nat, ss.length ≤ 4096 → nice (.list (ss.map (bitsD n))) = true ∧ (PyData.list (ss.map (bitsD n))).depth ≤ 40 ∧ (PyData.list (ss.map (bitsD n))).weight ≤ 2 ^ 20 := by
  have one : ∀ s, nice (bitsD n s) = true ∧ (bitsD n s).depth ≤ 1 ∧ (bitsD n s).weight ≤ 24 := fun s => by
    refine ⟨niceAll_iff.mpr fun x hx => ?_, ?_, ?_⟩
    · obtain ⟨i, hi, rfl⟩ := List.mem_map.mp hx
      obtain ⟨b, hb, rfl⟩ := List.mem_map.mp hi
      have := bitsS_lt n s b hb
      exact decide_eq_true (by show (b : Int).natAbs < 10 ^ 12; omega)
    · show PyData.depthAll _ + 1 ≤ 1
      rw [depth_ints]
      decide
    · show PyData.weightAll _ ≤ 24
      have := weight_ints (k := 1) (ns := (bitsS n s).map Int.ofNat) fun i hi => by
        obtain ⟨b, hb, rfl⟩ := List.mem_map.mp hi
        have := bitsS_lt n s b hb
        show (b : Int).natAbs < 2 ^ 1
        omega
      rw [List.length_map, bitsS_len] at this
      omega
  have dep : ∀ ss : List Nat, PyData.depthAll (ss.map (bitsD n)) ≤ 1 := by
    intro ss
    induction ss with
    | nil => exact Nat.zero_le _
    | cons s ss ih =>
      show max (bitsD n s).depth (PyData.depthAll (ss.map (bitsD n))) ≤ 1
      exact Nat.max_le.mpr ⟨(one s).2.1, ih⟩
  have wt : ∀ ss : List Nat, PyData.weightAll (ss.map (bitsD n)) ≤ 25 * ss.length := by
    intro ss
    induction ss with
    | nil => exact Nat.zero_le _
    | cons s ss ih =>
      have := (one s).2.2
      show (bitsD n s).weight + 1 + PyData.weightAll (ss.map (bitsD n)) ≤ 25 * (ss.length + 1)
      omega
  intro ss l
  refine ⟨niceAll_iff.mpr fun x hx => ?_, ?_, ?_⟩
  · obtain ⟨s, _, rfl⟩ := List.mem_map.mp hx
    exact (one s).1
  · have := dep ss
    show PyData.depthAll _ + 1 ≤ 40
    omega
  · have := wt ss
    show PyData.weightAll _ ≤ 2 ^ 20
    omega
theorem modD_is {n : Nat} {cs : List (List (Nat × Nat))} (ok : ∀ ls ∈ cs, ∀ l ∈ ls, l.1 < 2 ^ n ∧ l.2 < 2 ∧ bts l.1 ≠ []) {x : Nat} (hx : BitsOf (2 ^ n) x (fun s => cs.all fun ls => ls.any fun l => holdsB l (fS n s))) :
    (PyData.list (((List.range (2 ^ n)).filter fun s => x.testBit s).map (bitsD n))) = modD n cs := by
  unfold modD
  rw [modM_all ok, List.map_map]
  congr 1
  rw [List.filter_congr fun s hs => hx.2 s (List.mem_range.mp hs)]
  rfl
def sp_law_are_models_right (K : PySem.W.Frag) : Sp := fun vs H Q _ => ∃ (v : V) (n : Nat) (cs : List (List (Nat × Nat))), vs = [v] ∧ BookV K H v n cs ∧ n ≤ 12 ∧ (∀ ls ∈ cs, ClOkZ n ls) ∧ cs.length ≤ 900 ∧
  ∀ H', Same H H' → Q (.bl true) H'
end Es
set_option Elab.async false
set_option linter.all false
set_option maxRecDepth 100000
set_option maxHeartbeats 4000000
namespace Es
open PySem PySem.Spec PyProof.Rows L2
def bookD (n : Nat) (cs : List (List (Nat × Nat))) : PyData := .tuple [.int (n : Int), .tuple (clsD cs)]
theorem dp_bookD {K : PySem.W.Frag} {H : Hp} {v : V} {n : Nat} {cs : List (List (Nat × Nat))} (h : BookV K H v n cs) : Dp K H v (bookD n cs) := by
  obtain ⟨t, c, us, rfl, ht, hc, hP⟩ := h
  exact .tup ht (.cons (.int _) (.cons (.tup hc (dpAll_cls hP)) .nil))
theorem bookD_facts {n : Nat} (n12 : n ≤ 12) {cs : List (List (Nat × Nat))} (ok : ∀ ls ∈ cs, ClOkZ n ls) : nice (bookD n cs) = true ∧ (bookD n cs).depth ≤ 5 ∧ (bookD n cs).weight ≤ 45 + 617 * cs.length := by
  have one : ∀ ls ∈ cs, nice (.tuple (ls.map lineD)) = true ∧ (PyData.tuple (ls.map lineD)).depth ≤ 3 ∧ (PyData.tuple (ls.map lineD)).weight ≤ 616 := fun ls hl => by
    obtain ⟨a, b, c⟩ := linesT_facts n12 (ls := ls) fun l h => ⟨((ok ls hl).1 l h).1, ((ok ls hl).1 l h).2.2⟩
    have := (ok ls hl).2
    exact ⟨a, b, by omega⟩
  clear ok
  have dep : PyData.depthAll (clsD cs) ≤ 3 ∧ PyData.weightAll (clsD cs) ≤ 617 * cs.length := by
    induction cs with
    | nil => exact ⟨Nat.zero_le _, Nat.zero_le _⟩
    | cons ls cs ih =>
      obtain ⟨i1, i2⟩ := ih fun x h => one x (List.mem_cons_of_mem _ h)
      obtain ⟨_, b, c⟩ := one ls List.mem_cons_self
      refine ⟨Nat.max_le.mpr ⟨b, i1⟩, ?_⟩
      show (PyData.tuple (ls.map lineD)).weight + 1 + PyData.weightAll (clsD cs) ≤ 617 * (cs.length + 1)
      omega
  refine ⟨niceAll_iff.mpr fun x hx => ?_, ?_, ?_⟩
  · rcases List.mem_cons.mp hx with rfl | hx
    · exact decide_eq_true (by show (n : Int).natAbs < 10 ^ 12; omega)
    · rw [List.mem_singleton.mp hx]
      refine niceAll_iff.mpr fun y hy => ?_
      obtain ⟨ls, hl, rfl⟩ := List.mem_map.mp hy
      exact (one ls hl).1
  · have := dep.1
    show max 0 (max (PyData.depthAll (clsD cs) + 1) 0) + 1 ≤ 5
    omega
  · have w1 : PyData.weight (.int (n : Int)) ≤ 4 := weight_int (show n < 2 ^ 4 by omega)
    have := dep.2
    show PyData.weight (.int (n : Int)) + 1 + (PyData.weightAll (clsD cs) + 1 + 0) ≤ 45 + 617 * cs.length
    omega
theorem dp_books {K : PySem.W.Frag} {H : Hp} {n : Nat} : ∀ {us : List V} {css : List (List (List (Nat × Nat)))}, Paired (fun v cs => BookV K H v n cs) us css → DpAll K H us (css.map (bookD n))
  | _, _, .nil => .nil
  | _, _, .cons h t => .cons (dp_bookD h) (dp_books t)
theorem books_same {K : PySem.W.Frag} {H H' : Hp} {n : Nat} (s : Same H H') {us : List V} {css : List (List (List (Nat × Nat)))} (h : Paired (fun v cs => BookV K H v n cs) us css) : Paired (fun v cs => BookV K H' v n cs) us css := Paired.mono2 (fun _ _ z => BookV.same s z) h
theorem books_but {K : PySem.W.Frag} {H H' : Hp} {n : Nat} {b : Addr} {ys : List V} (hb : H b = some (.lst ys)) (s : But b H H') {us : List V} {css : List (List (List (Nat × Nat)))} (h : Paired (fun v cs => BookV K H v n cs) us css) : Paired (fun v cs => BookV K H' v n cs) us css := Paired.mono2 (fun _ _ z => BookV.but hb s z) h
def outC (cs : List (List (Nat × Nat))) (i : Nat) : List (List (Nat × Nat)) := cs.take i ++ cs.drop (i + 1)
def partsL (cs : List (List (Nat × Nat))) (js : List Nat) (kl : List (Nat × Nat)) (k : Nat) : List (List (List (Nat × Nat))) := [js.map fun j => cs.getD j [], cs ++ [kl]] ++ (List.range k).map (outC cs)
theorem partsL_snoc (cs : List (List (Nat × Nat))) (js : List Nat) (kl : List (Nat × Nat)) (k : Nat) : partsL cs js kl (k + 1) = partsL cs js kl k ++ [outC cs k] := by
  unfold partsL
  rw [List.range_succ, List.map_append, ← List.append_assoc]
  rfl
theorem partsL_facts {n : Nat} (n12 : n ≤ 12) {cs : List (List (Nat × Nat))} {js : List Nat} {kl : List (Nat × Nat)} (ok : ∀ ls ∈ cs, ClOkZ n ls) (okl : ClOkZ n kl) (lc : cs.length ≤ 25) (hj : ∀ j ∈ js, j < cs.length) (lj : js.length ≤ 25) :
    nice (.list ((partsL cs js kl cs.length).map (bookD n))) = true ∧ (PyData.list ((partsL cs js kl cs.length).map (bookD n))).depth ≤ 40 ∧ (PyData.list ((partsL cs js kl cs.length).map (bookD n))).weight ≤ 2 ^ 20 := by
  have all : ∀ x ∈ partsL cs js kl cs.length, (∀ ls ∈ x, ClOkZ n ls) ∧ x.length ≤ 26 := fun x hx => by
    unfold partsL at hx
    rcases List.mem_append.mp hx with hx | hx
    · rcases List.mem_cons.mp hx with rfl | hx
      · refine ⟨fun ls h => ?_, by rw [List.length_map]; omega⟩
        obtain ⟨j, hm, rfl⟩ := List.mem_map.mp h
        have := hj j hm
        rw [List.getD_eq_getElem?_getD, List.getElem?_eq_getElem this]
        exact ok _ (List.getElem_mem this)
      · rw [List.mem_singleton.mp hx]
        refine ⟨fun ls h => ?_, by rw [List.length_append, List.length_singleton]; omega⟩
        rcases List.mem_append.mp h with h | h
        · exact ok ls h
        · rw [List.mem_singleton.mp h]
          exact okl
    · obtain ⟨i, hi, rfl⟩ := List.mem_map.mp hx
      unfold outC
      refine ⟨fun ls h => ?_, ?_⟩
      · rcases List.mem_append.mp h with h | h
        · exact ok ls (List.mem_of_mem_take h)
        · exact ok ls (List.mem_of_mem_drop h)
      · rw [List.length_append, List.length_take, List.length_drop]
        omega
  have len : (partsL cs js kl cs.length).length ≤ 27 := by
    unfold partsL
    rw [List.length_append, List.length_map, List.length_range]
    show 2 + cs.length ≤ 27
    omega
  refine list_facts (k := 5) (w := 16087) (fun d hd => ?_) (by decide) ?_
  · obtain ⟨x, hx, rfl⟩ := List.mem_map.mp hd
    obtain ⟨a1, a2⟩ := all x hx
    obtain ⟨b1, b2, b3⟩ := bookD_facts n12 a1
    exact ⟨b1, b2, by omega⟩
  · rw [List.length_map]
    omega
def sp_law_are_parts_right (K : PySem.W.Frag) : Sp := fun vs H Q _ => ∃ (b c : Addr) (v : V) (n : Nat) (cs : List (List (Nat × Nat))), vs = [.ref b, v] ∧ BagAt K H b c ∧ BookV K H v n cs ∧ n ≤ 12 ∧ (∀ ls ∈ cs, ClOkZ n ls) ∧ cs.length ≤ 25 ∧
  ∀ H', But b H H' → BagAt K H' b c → Q (.bl true) H'
end Es
set_option Elab.async false
set_option linter.all false
set_option maxRecDepth 100000
set_option maxHeartbeats 4000000
namespace Es
open PySem PySem.Spec PyProof.Rows L2
structure FnR (P : Program) (w : World) (K : PySem.W.Frag) (mg : Str → Option Value) (base : Heap)
    (k : Nat) (f : Addr) (fd : FuncData) (ps : List Str) (sp : Sp) : Prop where
  lenR : ∀ {vs H Q E}, sp vs H Q E → vs.length = ps.length
  runR : ∀ {B : Around} {out : List Env} {t : Shared} {G : Hp} {ar : Args} {xs : List Value} {ys : List V} {R : VK} {E : XK},
    Room k B → B.guards = some [] → Env0 P w K mg base B out t G → BindsTo t fd ar (ps.zip xs) → Vals ys xs → sp ys G R E →
    codeAny (model P w) B (.call (.ref f) ar) (CR (L2.CX P w) out P w G t R E) t
section
variable {P : Program} {w : World} {K : PySem.W.Frag} {mg : Str → Option Value} {base : Heap}
theorem FnR.up {j k : Nat} {f : Addr} {fd : FuncData} {ps : List Str} {sp : Sp} (F : FnR P w K mg base j f fd ps sp) (h : j ≤ k) :
    FnR P w K mg base k f fd ps sp :=
  ⟨F.lenR, fun hr hg he hb hv hs => F.runR (hr.mono h) hg he hb hv hs⟩
theorem FnR.plain {k : Nat} {f : Addr} {fd : FuncData} {ps : List Str} {sp sq : Sp} (F : FnR P w K mg base k f fd ps sp) (h : ∀ {vs H Q E}, sq vs H Q E → sp vs H Q E0) :
    FnG P w K mg base k f fd ps sq := by
  refine ⟨fun z => F.lenR (h z), fun hr hg he hb hv hs => codeAny_mono (F.runR hr hg he hb hv (h hs)) ?_⟩
  intro r t2 q
  cases r with
  | ok fl => cases fl <;> exact q
  | error e =>
    obtain ⟨_, _, _, _, _, _, _, _, _, _, _, _, z⟩ := q
    exact z.elim
theorem fnr_of {k : Nat} {f : Addr} {nm ql : Str} {pr : Arguments} {bd : List Stmt} {sc : Scope} {dV kV doc pm cdv ct oc : Value}
    {an od : Option Addr} {osl : Array (Option Value)} {N ps : List Str} {sp : Sp}
    (look : K.lookup f = some ⟨oc, od, .func (PySem.W.fnOf nm ql pr bd sc dV kV doc pm an cdv ct), osl⟩)
    (cod : PySem.W.codeIn K cdv ql = true) (S : FnScope N ps sc)
    (ln : ∀ {vs H Q E}, sp vs H Q E → vs.length = ps.length)
    (body : ∀ (B : Around) (out : List Env) (t : Shared) (G : Hp) (ys : List V) (R : VK) (E : XK),
      Room k (B.deeper (envOfC ql sc t.heap.objs.size f cdv)) → B.guards = some [] → sp ys G R E →
      ∃ r, PSs (cxOf (L2.CX P w) P w K mg base N ql sc f cdv B out t G E) bd r ∧ r { nx := fun _ G' => R .non G', rt := R } (start N ys) G) :
    FnR P w K mg base (k + 1) f (PySem.W.fnOf nm ql pr bd sc dV kV doc pm an cdv ct) ps sp := by
  refine ⟨ln, ?_⟩
  intro B out t G ar xs ys R E room gd env0 bind rel want
  have lens := ln want
  have keepB : ∀ b o, base.get? b = some o → t.heap.get? b = some o := fun b o e => (env0.bs b o e).1
  have inK : K.In t.heap := env0.mod.kin.keeps keepB
  have nolim : t.heap.NoLimit := env0.mod.nolimit.keeps keepB
  refine codeAny_call_function room.depth (inK _ _ look) rfl S.co S.gen rfl (PySem.W.codeRec_of inK cod) (bind _ _ _ _ ?_)
  refine wpAny_newFunctionEnv_cells S.kind (fun p hp => ?_) (fun ev hev t1 st => ?_)
  · obtain ⟨n, v⟩ := p
    cases S.par n (List.of_mem_zip hp).1 with
    | inl z => exact Or.inl z
    | inr z => exact Or.inr ⟨z, PySem.W.cellsFrom_some _ _ _ (Or.inl z)⟩
  · subst hev
    refine ⟨nolim.keeps st.toInCall.keep, codeAny_func ?_⟩
    obtain ⟨r, hr1, hr2⟩ := body B out t G ys R E (room.deeper _) gd want
    have J0 : Inv (cxOf (L2.CX P w) P w K mg base N ql sc f cdv B out t G E) [] (start N ys) G t1 := inv_start S room.hd env0 lens rel st
    refine wpAny_mono (hr1.run [] t1 (start N ys) G _ J0 hr2) ?_ (fun e t2 h2 => h2)
    intro fl t2 h2
    have done : ∀ {σ2 : L2.St} {G2 : Hp} {v : V} {u : Value}, Inv (cxOf (L2.CX P w) P w K mg base N ql sc f cdv B out t G E) [] σ2 G2 t2 → RelV v u → R v G2 → CE out P w G t R u t2 := by
      intro σ2 G2 v u J rv q
      exact ⟨v, G2, J.os, J.bare, J.base, J.hok, rv, q⟩
    cases fl with
    | next => obtain ⟨σ2, G2, J, q⟩ := h2; exact done (v := V.non) (u := Value.none) J rfl q
    | ret u => obtain ⟨v, σ2, G2, J, rv, q⟩ := h2; exact done J rv q
    | brk => obtain ⟨_, _, _, q⟩ := h2; exact q.elim
    | cont => obtain ⟨_, _, _, q⟩ := h2; exact q.elim
theorem okR {x qual : Str} {st : Stmt} {f : Addr} {fd : FuncData} {N ps : List Str} {k : Nat} {sp : Sp} (F : Fun K x qual st f fd) (S : FnScope N ps (defScope st))
    (ln : ∀ {vs H Q E}, sp vs H Q E → vs.length = ps.length)
    (body : ∀ (cdv : Value) (B : Around) (out : List Env) (t : Shared) (G : Hp) (ys : List V) (R : VK) (E : XK),
      Room k (B.deeper (envOfC qual (defScope st) t.heap.objs.size f cdv)) → (B.deeper (envOfC qual (defScope st) t.heap.objs.size f cdv)).guards = some [] →
      Takes (cxOf (L2.CX P w) P w K mg base N qual (defScope st) f cdv B out t G E) (fun cls d _ H => E cls d H) → sp ys G R E →
      ∃ r, PSs (cxOf (L2.CX P w) P w K mg base N qual (defScope st) f cdv B out t G E) (defBody st) r ∧ r { nx := fun _ G' => R .non G', rt := R } (start N ys) G) :
    FnR P w K mg base (k + 1) f fd ps sp := by
  obtain ⟨oc, od, kV, doc, pm, an, cdv, ct, osl, rfl, lk, hcd⟩ := F.ex
  refine fnr_of lk hcd S ln ?_
  intro B out t G ys R E hr hg want
  exact body cdv B out t G ys R E hr hg (takes_of rfl rfl rfl rfl) want
def CalleeR (P : Program) (w : World) (K : PySem.W.Frag) (mg : Str → Option Value) (base : Heap) (k : Nat) (x : Str) (ps : List Str) (sp : Sp) : Prop :=
  ∃ (f : Addr) (fd : FuncData), FnR P w K mg base k f fd ps sp ∧ mg x = some (.ref f) ∧ PySem.W.keepIn K (.ref f) = true ∧ Binds K fd ps []
theorem CalleeR.plain {k : Nat} {x : Str} {ps : List Str} {sp sq : Sp} (c : CalleeR P w K mg base k x ps sp) (h : ∀ {vs H Q E}, sq vs H Q E → sp vs H Q E0) : CalleeOf P w K mg base k x ps sq := by
  obtain ⟨f, fd, F, hm, hk, hb⟩ := c
  exact ⟨f, fd, F.plain h, hm, hk, hb⟩
end
section
variable {X : Cx} {k : Nat} {ps : List Str} {sp : Sp} {x : Str} {p pos : Pos} {e : Expr} {es : List Expr} {t : TA} {E : L2.St → XK}
theorem runR_call {f : Addr} {fd : FuncData} {pins : List (Addr × Obj)} {σ : L2.St} {H : Hp} {s : Shared} {Q : VK} {us : List Value} {vs : List V} (F : FnR X.prog X.w X.K X.mg X.base k f fd ps sp)
    (hr : Room k X.A) (hg : X.A.guards = some []) (hb : Binds X.K fd ps []) (hx : PassesAt (L2.CX X.prog X.w) X σ (E σ)) (I : Inv X pins σ H s) (r : Vals vs us) (h : sp vs H Q (E σ)) :
    wpAny (model X.prog X.w) X.A (call (.ref f) us) (EP X pins σ Q) X.xe s := by
  have l1 : (us ++ []).length = ps.length := by
    rw [List.append_nil, ← r.length]
    exact F.lenR h
  have b1 := hb s us I.kIn l1
  rw [List.append_nil] at b1
  refine wpAny_call (codeAny_mono (F.runR hr hg I.env0 b1 r h) ?_)
  intro z s' hz
  cases z with
  | error er => exact hx pins H s er s' I hz
  | ok fl =>
    cases fl with
    | ret u => exact I.after hz
    | next => exact False.elim hz
    | brk => exact False.elim hz
    | cont => exact False.elim hz
theorem pe_callR (c : CalleeR X.prog X.w X.K X.mg X.base k x ps sp) (hr : Room k X.A) (hg : X.A.guards = some []) (hgl : Gl X x) (hx : ∀ σ, PassesAt (L2.CX X.prog X.w) X σ (E σ)) (ha : PA X (e :: es) t) (hd : (x == ("__debug__" : Str)) = false := by decide)
    (h1 : starEach (e :: es) X.env = (false, eval e X.env) :: starEach es X.env := by rfl) (h2 : (backTo pos (starEach es X.env)).any (·.1) = false := by rfl) :
    PE X (.Call (.Name x p) (e :: es) [] pos) (tCallS sp E t) := by
  obtain ⟨f, fd, F, hm, hk, hb⟩ := c
  refine ⟨fun pins s σ H Q I h => ?_⟩
  refine wpAny_Call_Name_kw (ld_glob I hgl hm ?_ hd)
  refine PySem.W.callWith_K (h₀ := X.base) I.ok.mod.kin hk (thn (ha.run pos pins s σ H _ I h) ?_) h1 h2
  rintro us s1 ⟨vs, H1, I1, r, q⟩
  exact ⟨I1.kIn, runR_call F hr hg hb (hx σ) I1 r q⟩
end
structure ErrC (K : PySem.W.Frag) (mg : Str → Option Value) (x n : Str) (C fI : Addr) : Prop where
  oex : OexC K C
  gC : mg x = some (.ref C)
  iC : PySem.W.findIn K (.ref C) "__init__" = some (some (.ref fI))
  tI : PySem.W.typeIn K (.ref fI) = some (.type "function")
  xf : XfC K C
  no : PySem.W.findIn K (.ref C) n = some none
def sp_err (K : PySem.W.Frag) (n : Str) : Sp := fun vs H Q _ => ∃ (a C : Addr) (v : V), vs = [.ref a, v] ∧ OexC K C ∧ PySem.W.findIn K (.ref C) n = some none ∧ H a = some (exo a C none) ∧
  ∀ dx, H dx = none → dx ≠ a → Q .non (upd (upd H dx (exd dx [(n, v)])) a (exo a C (some dx)))
section
variable {P : Program} {w : World} {K : PySem.W.Frag} {mg : Str → Option Value} {base : Heap}
theorem ok_err {n qual : Str} {st : Stmt} {f : Addr} {fd : FuncData} {p1 p2 p3 p4 : Pos} (F : Fun K "__init__" qual st f fd) (S : FnScope ["self", n] ["self", n] (defScope st))
    (hb : defBody st = [.Assign [.Attribute (.Name "self" p1) n p2] (.Name n p3) p4])
    (h0 : Vis (defScope st) ("self" : Str)) (h1 : Vis (defScope st) n) (hd : (n == ("__debug__" : Str)) = false) (hc : (n == ("__classdict__" : Str)) = false) :
    FnOk P w K mg base CX0 1 f fd ["self", n] (sp_err K n) := by
  refine F.ok S (fun vs H Q E h => ?_) (fun cdv A outer s H vs Q E hr h => ?_)
  · obtain ⟨a, C, v, rfl, _⟩ := h
    rfl
  · rw [hb]
    refine ⟨_, pss_one (ps_ost (f := n) (pe_var (i := 0) rfl h0) (pe_var (i := 1) rfl h1 hd hc) (by rfl)), ?_⟩
    obtain ⟨a, C, v, rfl, T, no, ha, k⟩ := h
    exact ⟨v, rfl, .ref a, rfl, a, C, rfl, T, no, .inl ⟨ha, fun dx n1 n2 => k dx n1 n2⟩⟩
end
def tMkErr (C : Addr) (n : Str) (ta : TA) : L2.St → Hp → XK → Prop := fun σ H Q => ta σ H fun vs H1 => ∃ v, vs = [v] ∧ ∀ d, H1 d = none → Q (.ref C) (some d) (upd H1 d (.xd [(n, v)]))
section
variable {X : Cx} {x n : Str} {C fI : Addr} {e : Expr} {ta : TA} {p pos pos2 : Pos} {k : Nat} {fd : FuncData}
theorem PA.wide {es : List Expr} {ta : TA} (h : PA X es ta) : PA X es (fun σ H Q => ∃ Q0 : List V → Hp → Prop, ta σ H Q0 ∧ ∀ vs H1, Q0 vs H1 → Q vs H1) := by
  refine ⟨fun pos pins s σ H Q I ⟨Q0, h1, h2⟩ => wpAny_mono (h.run pos pins s σ H Q0 I h1) ?_ (fun _ _ z => z)⟩
  rintro us s' ⟨vs, H1, J, r, q⟩
  exact ⟨vs, H1, J, r, h2 _ _ q⟩
theorem pmk_err (T : ErrC X.K X.mg x n C fI) (F1 : FnOk X.prog X.w X.K X.mg X.base CX0 1 fI fd ["self", n] (sp_err X.K n)) (hb : Binds X.K fd ["self", n] []) (hr : Room 2 X.A) (hg : Gl X x) (ha : PA X [e] ta)
    (hd : (x == ("__debug__" : Str)) = false := by decide) (he : starEach [e] X.env = (false, eval e X.env) :: starEach [] X.env := by rfl) (hpl : (backTo pos (starEach [] X.env)).any (·.1) = false := by rfl) :
    PMk X (.Call (.Name x p) [e] [] pos) (tMkErr C n ta) := by
  intro pins s σ H Q I h
  refine pmk_oex (x := x) (p := p) (pos := pos) (es := []) T.oex T.iC T.tI F1 hr hb (.nil : Vals [] []) (pass0 (X := X)) hg T.gC (PA.wide ha) hd he hpl pins s σ H Q I ⟨_, h, ?_⟩
  rintro vs H1 ⟨v, rfl, q⟩
  refine ⟨(by show 1 ≤ 1000; decide), fun a na => ?_⟩
  refine ⟨a, C, v, rfl, T.oex, T.no, upd_same, fun dx n1 n2 => ⟨rfl, dx, [(n, v)], upd_same, ?_, ?_, ?_⟩⟩
  · rw [upd_ne n2, upd_same]
  · rwa [upd_ne n2] at n1
  · have n3 : H1 dx = none := by rwa [upd_ne n2] at n1
    have e : upd (del (upd (upd (upd H1 a (exo a C none)) dx (exd dx [(n, v)])) a (exo a C (some dx))) a) dx (.xd [(n, v)]) = upd H1 dx (.xd [(n, v)]) := by
      funext z
      by_cases z1 : z = dx
      · rw [z1, upd_same, upd_same]
      · rw [upd_ne z1, upd_ne z1]
        by_cases z2 : z = a
        · rw [z2, del_same, na]
        · rw [del_ne z2, upd_ne z2, upd_ne z1, upd_ne z2]
    rw [e]
    exact q dx n3
def tRaiseErr (C : Addr) (n : Str) (W : WX) (ta : TA) : TS := fun _ σ H => tMkErr C n ta σ H fun cls d H' => W cls d σ H'
theorem ps_raiseErr {W : WX} (hc : X.calm = true) (T : ErrC X.K X.mg x n C fI) (F1 : FnOk X.prog X.w X.K X.mg X.base CX0 1 fI fd ["self", n] (sp_err X.K n)) (hb : Binds X.K fd ["self", n] []) (hr : Room 2 X.A) (tk : Takes X W) (hg : Gl X x) (ha : PA X [e] ta)
    (hd : (x == ("__debug__" : Str)) = false := by decide) (he : starEach [e] X.env = (false, eval e X.env) :: starEach [] X.env := by rfl) (hpl : (backTo pos (starEach [] X.env)).any (·.1) = false := by rfl) :
    PS X (.Raise (some (.Call (.Name x p) [e] [] pos)) none pos2) (tRaiseErr C n W ta) := ps_raise hc tk (pmk_err T F1 hb hr hg ha hd he hpl)
end
def unE (D : Ends) (i : Nat) : Ends := { nx := fun σ H => D.nx (σ.set i none) H, rt := D.rt, bk := fun σ H => D.bk (σ.set i none) H, ct := fun σ H => D.ct (σ.set i none) H }
abbrev Clause := Value × Option Nat × (Addr → Value → Option Addr → TS)
def wCl (K : PySem.W.Frag) (Wout : WX) (D : Ends) : List Clause → WX
  | [] => Wout
  | (c, none, ts) :: r => fun cls d σ H => ∃ b, PySem.W.exmOne K cls c = some b ∧ (b = true → ∀ a, H a = none → ts a cls d D σ H) ∧ (b = false → wCl K Wout D r cls d σ H)
  | (c, some i, ts) :: r => fun cls d σ H => ∃ b, PySem.W.exmOne K cls c = some b ∧ (b = true → ∀ a, H a = none → ts a cls d (unE D i) (σ.set i (some (.ref a))) H) ∧ (b = false → wCl K Wout D r cls d σ H)
inductive Clauses (X : Cx) : List ExceptHandler → List Clause → Prop
  | nil : Clauses X [] []
  | bare {x : Str} {c : Value} {ts : Addr → Value → Option Addr → TS} {b1 : Stmt} {bs : List Stmt} {p1 p2 : Pos} {hs : List ExceptHandler} {l : List Clause} (names : Names X x c)
      (suite : ∀ {a : Addr} {oe : Obj} {cls : Value} {d : Option Addr} {pn : List (Addr × Obj)}, Zc cls d oe → (∃ vs, oe.data = .fields vs) → PSs (X.suite a ((a, oe) :: pn)) (b1 :: bs) (ts a cls d))
      (more : Clauses X hs l) : Clauses X (.ExceptHandler (some (.Name x p1)) none (b1 :: bs) p2 :: hs) ((c, none, ts) :: l)
  | named {x n : Str} {i : Nat} {c : Value} {ts : Addr → Value → Option Addr → TS} {b1 : Stmt} {bs : List Stmt} {p1 p2 : Pos} {hs : List ExceptHandler} {l : List Clause} (names : Names X x c)
      (at_ : X.N[i]? = some n) (loc : X.env.kindOf n = some .local)
      (suite : ∀ {a : Addr} {oe : Obj} {cls : Value} {d : Option Addr} {pn : List (Addr × Obj)}, Zc cls d oe → (∃ vs, oe.data = .fields vs) → PSs (X.suite a ((a, oe) :: pn)) (b1 :: bs) (ts a cls d))
      (more : Clauses X hs l) : Clauses X (.ExceptHandler (some (.Name x p1)) (some n) (b1 :: bs) p2 :: hs) ((c, some i, ts) :: l)
section
variable {X : Cx} {body : List Stmt} {h1 : ExceptHandler} {hs : List ExceptHandler} {l : List Clause} {pos : Pos} {tb : WX → TS} {Wout : WX}
theorem not_frame {B h : Heap} {env : Env} {outer : List Env} {o : Obj} {vs : Array Value} {a : Addr} (ff : h.FunFrames B (env :: outer)) (e : h.get? a = some o) (dd : o.data = .fields vs) : a ∉ frs (env :: outer) := by
  intro z
  obtain ⟨_, q, e2, nf⟩ := ff.mem z
  have e3 := e.symm.trans e2
  cases e3
  exact nf vs dd
theorem sp_outTry {pn pins : List (Addr × Obj)} {xe : Value → Shared → Prop} {D : Ends} {f : Flow} {s : Shared} (ok : X.Ok) (J : ∀ {σ H}, Inv (X.tr pn xe) [] σ H s → Inv X pins σ H s) (h : SP (X.tr pn xe) [] D f s) : SP X pins D f s := by
  cases f with
  | next => obtain ⟨σ2, H2, I2, q⟩ := h; exact ⟨σ2, H2, J I2, q⟩
  | brk => obtain ⟨σ2, H2, I2, q⟩ := h; exact ⟨σ2, H2, J I2, q⟩
  | cont => obtain ⟨σ2, H2, I2, q⟩ := h; exact ⟨σ2, H2, J I2, q⟩
  | ret u => obtain ⟨v, σ2, H2, I2, r, q⟩ := h; exact ⟨v, σ2, H2, J I2, r, q⟩
def catchE (X : Cx) (pins : List (Addr × Obj)) (D : Ends) (ks : List ExceptHandler) : Value → Shared → Prop := fun e t =>
  wpAny (model X.prog X.w) X.A (noteFrame e X.env)
    (fun _ t2 => wpAny (model X.prog X.w) X.A (setFlight e none)
      (fun _ t3 => wpAny (model X.prog X.w) X.A (handleBy e X.env ks) (SP X pins D) X.xe t3) X.xe t2) X.xe t
theorem ps_tryAll (stk : X.stack = X.env :: X.outer) (frm : X.env.frame = some X.env.locals) (nd : X.N.Nodup) (tk : Takes X Wout)
    (inner : ∀ {W : WX} {pn : List (Addr × Obj)} {xe : Value → Shared → Prop}, Takes (X.tr pn xe) W → PassesOwn (model X.prog X.w) X.A X.env xe → PSs (X.tr pn xe) body (tb W))
    (cl : Clauses X (h1 :: hs) l) : PS X (.Try body (h1 :: hs) [] [] pos) (fun D σ H => tb (wCl X.K Wout D l) D σ H) := by
  constructor
  intro pins s σ H D I want
  have ok := I.ok
  have frames : X.A.frames = some (X.env :: X.outer) := ok.frames.trans (by rw [stk])
  refine wpAny_Try_except (wpAny_mono ((inner (W := wCl X.K Wout D l) (pn := X.pn ++ pins) (xe := catchE X pins D (h1 :: hs)) ?takes PassesOwn.looking).run [] s σ H D (I.toTry _) want) ?fin fun _ _ z => z)
  case fin =>
    intro f s1 h
    have h2 := sp_outTry ok (fun J => J.ofTry ok) h
    cases f with
    | next => exact wpAny_execs_nil h2
    | brk => exact h2
    | cont => exact h2
    | ret u => exact h2
  case takes =>
    rintro u s2 ⟨a, B, sI, pins2, σ2, H2, cls, d, rfl, J0, nb, up, sky, na, os, ag, wish⟩
    have J : Inv X pins σ2 H2 sI := J0.ofTry ok
    have sky2 : Sky B (X.env :: X.outer) a (Zc cls d) X.env.locals s2.heap := by rw [← stk]; exact sky
    show wpAny (model X.prog X.w) X.A (noteFrame (.ref a) X.env) _ X.xe s2
    refine Sky.land Zc.steady frames frm sky2 fun g fl ug => ?_
    have JL : Inv X pins σ2 H2 { s2 with heap := g } := J.landed nb fl.1 (up.trans ug) os ag
    obtain ⟨o3, v3, e3, z3, d3⟩ := fl.there
    have nfr := not_frame fl.2.2.1 e3 d3
    have ne_ : a ≠ X.env.locals := by
      intro z
      refine nfr (List.mem_filterMap.mpr ⟨X.env, List.mem_cons_self, ?_⟩)
      rw [frm, z]
    have nfs : a ∉ X.fs := by
      intro z
      obtain ⟨q, q1, q2⟩ := List.mem_filterMap.mp z
      exact nfr (List.mem_filterMap.mpr ⟨q, List.mem_cons_of_mem _ q1, q2⟩)
    have JS := JL.suite e3 d3 na ne_ nfs
    have looks : PySem.W.Looks (model X.prog X.w) g (typeOf (.ref a)) cls := fun A Q E s kp q => wpAny_typeOf_ref (kp _ _ e3) (by rw [z3.1]; exact q)
    have named : ∀ {x : Str} {c : Value} {np : Pos}, Names X x c → ∀ {Q E : Value → Shared → Prop}, Q c { s2 with heap := g } → wpAny (model X.prog X.w) (X.A.mark (some (.ref a))) (eval (.Name x np) X.env) Q E { s2 with heap := g } := by
      rintro x c np ⟨hg, hdb, h | ⟨h1, h2, h3⟩⟩ Q E q
      · exact ld_glob (X := X.suite a ((a, o3) :: (X.pn ++ pins))) JS hg h q hdb
      · exact ld_blt (X := X.suite a ((a, o3) :: (X.pn ++ pins))) JS hg h1 h2 q h3 hdb
    have run : ∀ {ks : List ExceptHandler} {m : List Clause}, Clauses X ks m → wCl X.K Wout D m cls d σ2 H2 → wpAny (model X.prog X.w) X.A (handleBy (.ref a) X.env ks) (SP X pins D) X.xe { s2 with heap := g } := by
      intro ks m hk
      induction hk with
      | nil =>
        intro wish
        refine wpAny_handleBy_nil ?_
        unfold PySem.passOn
        obtain ⟨_, _, _, o4, v4, T, _, _, e4, _, d4, at1, _⟩ := id fl
        refine wpAny_bind (wpAny_field e4 d4 at1 ?_)
        have nn : ¬ ((Value.ref T == Value.none) = true) := by simp
        rw [if_neg nn]
        have last : wpAny (model X.prog X.w) X.A (setFlight (.ref a) X.env.frame) (fun _ s4 => wpAny (model X.prog X.w) X.A (throw (.ref a) : Sem Flow) (SP X pins D) X.xe s4) X.xe { s2 with heap := g } := by
          rw [frm]
          refine HandSPX.setFlight_upZ fl fun g2 hh ug2 => wpAny_throw (tk _ _ ?_)
          refine ⟨a, B, sI, pins, σ2, H2, cls, d, rfl, J, nb, (up.trans ug).trans ug2, .inr (.inr ?_), na, os, ag, wish⟩
          rw [stk]
          exact hh
        first
          | exact wpAny_bind (wpAny_pure (wpAny_bind last))
          | exact wpAny_bind last
      | @bare x c ts b1 bs p1 p2 hs2 l2 names suite more ih =>
        rintro ⟨b, hb, yes, no⟩
        have LM := PySem.W.exm_one (M := model X.prog X.w) JL.kIn looks hb
        refine wpAny_handleBy_cons (codeAny_handlers_test (named names (LM.here ?_))) (fun z => by cases z)
        cases b with
        | false => exact ih (no rfl)
        | true =>
          refine codeAny_handlers_suite (HandSPX.lands_againZ fl fun g2 fl2 ug2 => ?_)
          have J4 : Inv X pins σ2 H2 { s2 with heap := g2 } := J.landed nb fl2.1 ((up.trans ug).trans ug2) os ag
          obtain ⟨o4, v4, e4, z4, d4⟩ := fl2.there
          refine wpAny_mono ((suite (pn := X.pn ++ pins) z4 ⟨_, d4⟩).run [] _ _ H2 D (J4.suite e4 d4 na ne_ nfs) (yes rfl a na)) ?_ (fun _ _ z => z.elim)
          intro f s6 h6
          cases f with
          | next => obtain ⟨σ6, H6, I6, q⟩ := h6; exact ⟨σ6, H6, I6.unsuite ok, q⟩
          | brk => obtain ⟨σ6, H6, I6, q⟩ := h6; exact ⟨σ6, H6, I6.unsuite ok, q⟩
          | cont => obtain ⟨σ6, H6, I6, q⟩ := h6; exact ⟨σ6, H6, I6.unsuite ok, q⟩
          | ret u => obtain ⟨v, σ6, H6, I6, r, q⟩ := h6; exact ⟨v, σ6, H6, I6.unsuite ok, r, q⟩
      | @named x n i c ts b1 bs p1 p2 hs2 l2 names at_ loc suite more ih =>
        rintro ⟨b, hb, yes, no⟩
        have LM := PySem.W.exm_one (M := model X.prog X.w) JL.kIn looks hb
        refine wpAny_handleBy_cons (codeAny_handlers_test (named names (LM.here ?_))) (fun z => by cases z)
        cases b with
        | false => exact ih (no rfl)
        | true =>
          refine codeAny_handlers_suite_as (HandSPX.lands_againZ fl fun g2 fl2 ug2 => ?_)
          have J4 : Inv X pins σ2 H2 { s2 with heap := g2 } := J.landed nb fl2.1 ((up.trans ug).trans ug2) os ag
          obtain ⟨o4, v4, e4, z4, d4⟩ := fl2.there
          refine store_ok (X := X.suite a ((a, o4) :: (X.pn ++ pins))) (v := .ref a) (J4.suite e4 d4 na ne_ nfs) nd at_ (.inl loc) rfl (fun s5 J5 => ?_) (.inr loc)
          refine wpAny_mono ((suite (pn := X.pn ++ pins) z4 ⟨_, d4⟩).run [] s5 _ H2 (unE D i) J5 (yes rfl a na)) ?_ (fun _ _ z => z.elim)
          intro f s6 h6
          have gone : ∀ {σ6 : L2.St} {H6 : Hp} {Q : Shared → Prop}, Inv (X.suite a ((a, o4) :: (X.pn ++ pins))) [] σ6 H6 s6 → (∀ s7, Inv X pins (σ6.set i none) H6 s7 → Q s7) →
              wpAny (model X.prog X.w) X.A (do bindName X.env n .none; unbindBehindTheSuite X.env n p2) (fun _ s7 => Q s7) X.xe s6 := fun I6 q => gone_ok (I6.unsuite ok) nd at_ loc q
          cases f with
          | next => obtain ⟨σ6, H6, I6, q⟩ := h6; exact gone I6 fun s7 J7 => ⟨_, H6, J7, q⟩
          | brk => obtain ⟨σ6, H6, I6, q⟩ := h6; exact gone I6 fun s7 J7 => ⟨_, H6, J7, q⟩
          | cont => obtain ⟨σ6, H6, I6, q⟩ := h6; exact gone I6 fun s7 J7 => ⟨_, H6, J7, q⟩
          | ret u => obtain ⟨v, σ6, H6, I6, r, q⟩ := h6; exact gone I6 fun s7 J7 => ⟨v, _, H6, J7, r, q⟩
    exact run cl wish
end
end Es
set_option Elab.async false
set_option linter.all false
set_option maxRecDepth 100000
set_option maxHeartbeats 4000000
namespace Es
open PySem PySem.Spec PyProof.Rows L2 LamX
abbrev askCx (X : Cx) (Ng : List Str) (x : Str) (sg : Scope) (g : Addr) (cdg : Value) (s : Shared) (H : Hp) : Cx := cxOf C8.CX0 X.prog X.w X.K X.mg X.base Ng x sg g cdg X.A X.stack s H C8.E0
abbrev lamQ (X : Cx) : Str := X.env.qual ++ "<lambda>"
theorem cx_mono {P : Program} {w : World} {outer : List Env} {H : Hp} {s s2 : Shared} {E F : XK} {u : Value} (h : ∀ {cls d G}, E cls d G → F cls d G) (c : L2.CX P w outer H s E u s2) : L2.CX P w outer H s F u s2 := by
  obtain ⟨a, B, G, cls, d, h1, h2, h3, h4, h5, h6, h7, e⟩ := c
  exact ⟨a, B, G, cls, d, h1, h2, h3, h4, h5, h6, h7, h e⟩
theorem PE.wide {X : Cx} {e : Expr} {t : TE} (h : PE X e t) : PE X e (fun σ H Q => ∃ Q0 : VK, t σ H Q0 ∧ ∀ v H1, Q0 v H1 → Q v H1) := by
  refine ⟨fun pins s σ H Q I ⟨Q0, h1, h2⟩ => wpAny_mono (h.run pins s σ H Q0 I h1) ?_ (fun _ _ z => z)⟩
  rintro u s' ⟨v, H1, J, r, q⟩
  exact ⟨v, H1, J, r, h2 _ _ q⟩
section
variable {X : Cx} {pins : List (Addr × Obj)} {σ : L2.St} {H : Hp} {s : Shared}
theorem pe_ask {Ng : List Str} {x a : Str} {sg : Scope} {g f c : Addr} {cdg pm ctv : Value} {params : Arguments} {body : Expr} {scope : Scope} {k i : Nat} {pn : List (Addr × Obj)} {xe : Value → Shared → Prop} {W : WX} {tb : XK → TE} {p1 p2 : Pos}
    (I : Inv X pins σ H s) (L : LamS X.env.scope scope)
    (here : s.heap.get? f = some (PySem.W.kla_obj "<lambda>" (lamQ X) params body scope (cloFrom X.env.cells scope.names []) pm c ctv)) (free : H f = none) (noStk : f ∉ frs X.stack)
    (bind : bindArgs (PySem.W.kla_fn "<lambda>" (lamQ X) params body scope (cloFrom X.env.cells scope.names []) pm (.ref c) ctv) ⟨[], []⟩ = pure [])
    (tk : Takes ((askCx X Ng x sg g cdg s H).tr pn xe) W) (room : Room (k + 1) (X.A.deeper (envOfC x sg s.heap.objs.size g cdg))) (gd : X.A.guards = some [])
    (inside : ∀ (A : Around) (outer : List Env) (s : Shared) (H : Hp) (E : XK), Room k (A.deeper (lamEnv X scope s.heap.objs.size f c)) → (A.deeper (lamEnv X scope s.heap.objs.size f c)).guards = some [] → PE (lamCx X A outer s H E scope f c) body (tb E))
    (hN : Ng[i]? = some a) (hv : Vis sg a) (hd : (a == ("__debug__" : Str)) = false := by decide) (hc : (a == ("__classdict__" : Str)) = false := by decide) :
    PE ((askCx X Ng x sg g cdg s H).tr pn xe) (.Call (.Name a p1) [] [] p2) (fun τ G Q => τ[i]? = some (some (.ref f)) ∧ G c = some (CodeO c (lamQ X)) ∧ ∃ E : XK, (∀ {cls d G2}, E cls d G2 → W cls d τ G2) ∧ tb E σ G Q) := by
  constructor
  rintro pz sz τ G Q J ⟨hs, hco, E, sub, want⟩
  have var := (pe_var (X := (askCx X Ng x sg g cdg s H).tr pn xe) (pos := p1) (i := i) hN hv hd hc).run pz sz τ G (fun v G1 => v = .ref f ∧ G1 = G) J ⟨.ref f, hs, rfl, rfl⟩
  refine wpAny_Call_Name_kw (thn var ?_)
  rintro u s1 ⟨v, G1, J1, rel, rfl, rfl⟩
  obtain rfl : u = Value.ref f := rel
  have still := J1.base.keep f _ here free noStk (fun z => nomatch (show f ∈ ([] : List Addr) from z))
  refine PySem.W.callWith_F0 ⟨_, _, _, _, still⟩ ?_
  obtain ⟨⟨oc, vs, t, g1, g2, g3⟩, _⟩ := J1.hok c _ hco
  have run : codeAny (model X.prog X.w) (X.A.deeper (envOfC x sg s.heap.objs.size g cdg)) (.call (.ref f) ⟨[], []⟩)
      (CR (L2.CX X.prog X.w) (envOfC x sg s.heap.objs.size g cdg :: X.stack) X.prog X.w G1 s1 Q E) s1 := by
    refine PySem.W.kla_callFunE room.depth still rfl L.co L.gen rfl ⟨c, oc, vs, t, rfl, g1, g2, g3⟩ ?_
    rw [bind]
    refine wpAny_pure (wpAny_newFunctionEnv (fun y hy => (L.own y hy).2) (fun y hy => by cases hy) (fun h2 ns sb => ⟨J1.nolimit.fresh _ sb, ?_⟩) L.kind)
    have kp : ∀ b o, s1.heap.get? b = some o → h2.get? b = some o := fun b o e => by
      refine sb.extBut b o (Nat.ne_of_lt (Heap.lt_size e)) ?_
      exact Heap.get?_push_of_some _ e
    have M := lam_start2 (E := E) (f := f) (c' := c) (tk := s1.toks + ([] : List (Str × Value)).length) I L J1.env0 room.hd J1.base ns kp
    have r2 := room.deeper (lamEnv X scope s1.heap.objs.size f c)
    refine PySem.W.kla_codeExpr (wpAny_mono ((inside _ _ s1 G1 E r2 gd).run [] _ _ G1 Q M want) ?_ (fun _ _ z => z))
    rintro v2 s2 ⟨w2, G2, M2, rel2, q⟩
    exact ⟨w2, G2, M2.os, M2.bare, M2.base, M2.hok, rel2, q⟩
  have pass := passAt (X := (askCx X Ng x sg g cdg s H).tr pn xe) tk τ
  refine wpAny_call (codeAny_mono run ?_)
  intro r s2 q
  cases r with
  | error er => exact pass pz G1 s1 er s2 J1 (cx_mono (F := WE W τ) sub q)
  | ok fl =>
    cases fl with
    | ret u => exact J1.after q
    | next => exact q.elim
    | brk => exact q.elim
    | cont => exact q.elim
end
def Gives (X : Cx) (Ng : List Str) (x : Str) (sg : Scope) (g : Addr) (cdg : Value) (bg : List Stmt) (a : Str) (q : Str) (TT : (XK → Hp → VK → Prop) → Hp → VK → Prop) : Prop :=
  ∀ (f c : Addr) (s : Shared) (H : Hp) (Q : VK) (tl : XK → Hp → VK → Prop),
    (∀ {W : WX} {pn : List (Addr × Obj)} {xe : Value → Shared → Prop} {p1 p2 : Pos}, Takes ((askCx X Ng x sg g cdg s H).tr pn xe) W →
      PE ((askCx X Ng x sg g cdg s H).tr pn xe) (.Call (.Name a p1) [] [] p2) (fun τ G Q => τ[0]? = some (some (.ref f)) ∧ G c = some (CodeO c q) ∧ ∃ E : XK, (∀ {cls d G2}, E cls d G2 → W cls d τ G2) ∧ tl E G Q)) →
    H c = some (CodeO c q) → TT tl H Q →
    ∃ r, PSs (askCx X Ng x sg g cdg s H).nox bg r ∧ r { nx := fun _ H2 => Q .non H2, rt := Q } (L2.start Ng [.ref f]) H
section
variable {X : Cx}
theorem pe_lamG {T : List (Addr × Str)} {TT : (XK → Hp → VK → Prop) → Hp → VK → Prop} {x a : Str} {g c P : Addr} {k : Nat} {pg : Arguments} {bg : List Stmt} {sg : Scope} {dV kV doc pm cdv ct oc : Value} {an od : Option Addr} {osl : Array (Option Value)} {Ng : List Str}
    {params : Arguments} {body : Expr} {scope : Scope} {t : XK → TE} {p lpos pos : Pos} (hg : Gl X x) (hm : X.mg x = some (.ref g)) (hk : PySem.W.keepIn X.K (.ref g) = true)
    (lk : X.K.lookup g = some ⟨oc, od, .func (PySem.W.fnOf x x pg bg sg dV kV doc pm an cdv ct), osl⟩) (cod : PySem.W.codeIn X.K cdv x = true) (hb : L2.Binds X.K (PySem.W.fnOf x x pg bg sg dV kV doc pm an cdv ct) [a] []) (S : FnScope Ng [a] sg)
    (gives : Gives X Ng x sg g cdv bg a (lamQ X) TT) (hN : Ng[0]? = some a) (hv : Vis sg a)
    (TB : TabB X.base X.mg c P) (code : X.env.code = .ref c) (mem : (P, lamQ X) ∈ T) (one : ∀ p ∈ T, p.1 = P → p.2 = lamQ X) (room : Room (k + 2) X.A) (gd : X.A.guards = some []) (L : LamS X.env.scope scope) (nodef : defaultsOf params X.env = ([], []))
    (bind : ∀ (q : Str) (cl : List (Str × Addr)) (pm cv ctv : Value), bindArgs (PySem.W.kla_fn "<lambda>" q params body scope cl pm cv ctv) ⟨[], []⟩ = pure [])
    (inside : ∀ (A : Around) (outer : List Env) (s : Shared) (H : Hp) (E : XK) (f c' : Addr), Room k (A.deeper (lamEnv X scope s.heap.objs.size f c')) → (A.deeper (lamEnv X scope s.heap.objs.size f c')).guards = some [] → PE (lamCx X A outer s H E scope f c') body (t E))
    (d1 : (x == ("__debug__" : Str)) = false := by decide) (d2 : (a == ("__debug__" : Str)) = false := by decide) (d3 : (a == ("__classdict__" : Str)) = false := by decide) :
    PE X (.Call (.Name x p) [.Lambda params body scope lpos] [] pos) (tLam T TT t) := by
  constructor
  rintro pins s σ H Q I ⟨tabs, want⟩
  refine wpAny_Call_Name_kw (ld_glob I hg hm (PySem.W.callWith_K (h₀ := X.base) I.ok.mod.kin hk ?_ (by rfl) (by rfl)) d1)
  show wpAny _ _ (spliced ((false, eval (.Lambda params body scope lpos) X.env) :: backTo pos (starEach [] X.env))) _ _ s
  refine Calls.spliced_cons (lam_make2 I TB code mem one tabs nodef (L.has I.ok) ?_)
  intro f c2 pm2 ctv2 H1 s1 I1 ext tabs1 ob nf nstk co
  refine Calls.spliced_nil ⟨I1.kIn, ?_⟩
  have bd := hb s1 [.ref f] I1.kIn rfl
  have run : codeAny (model X.prog X.w) X.A (.call (.ref g) ⟨[.ref f], []⟩) (CR C8.CX0 X.stack X.prog X.w H1 s1 Q C8.E0) s1 := by
    refine run_ofS (N := Ng) (ps := [a]) (us := [.ref f]) (vs := [.ref f]) lk cod S room I1.env0 bd (.cons rfl .nil) rfl (fun room2 => ?_)
    obtain ⟨r, h1, h2⟩ := gives f c2 s1 H1 Q (fun E H2 Q2 => t E σ H2 Q2) (fun tk => pe_ask (i := 0) (tb := t) I1 L ob nf nstk (bind _ _ _ _ _) tk room2 gd (fun A outer s H E r2 g2 => inside A outer s H E f c2 r2 g2) hN hv d2 d3) co (want H1 ext tabs1)
    exact ⟨r, h1.nox, h2⟩
  refine wpAny_call (codeAny_mono run ?_)
  intro r s2 q
  cases r with
  | error er => exact (show False from q).elim
  | ok fl =>
    cases fl with
    | ret u => exact I1.after q
    | next => exact q.elim
    | brk => exact q.elim
    | cont => exact q.elim
end
end Es
set_option Elab.async false
set_option linter.all false
set_option maxRecDepth 100000
set_option maxHeartbeats 4000000
namespace Es
open PySem PySem.Spec PyProof.Rows L2 LamX
theorem exm_of {K : PySem.W.Frag} {S B : Addr} {r : Bool} (h1 : PySem.W.subIn K (.ref B) (.type "BaseException") = some true) (h2 : PySem.W.isClsIn K B = true) (h3 : PySem.W.typeIn K (.ref B) = some (.type "type")) (h4 : PySem.W.subIn K (.ref S) (.ref B) = some r) :
    PySem.W.exmOne K (.ref S) (.ref B) = some r := by
  unfold PySem.W.exmOne
  have e1 : (PySem.W.subIn K (.ref B) (.type "BaseException") == some true) = true := by rw [h1]; rfl
  have h2 : (PySem.W.clsIn K B).isSome = true := h2
  have e2 : ((PySem.W.clsIn K B).isSome && PySem.W.typeIn K (.ref B) == some (.type "type")) = true := by rw [h2, h3]; rfl
  rw [if_pos e1]
  show (if ((PySem.W.clsIn K B).isSome && PySem.W.typeIn K (.ref B) == some (.type "type")) = true then PySem.W.subIn K (.ref S) (.ref B) else none) = some r
  rw [if_pos e2]
  exact h4
structure HearC (K : PySem.W.Frag) (mg : Str → Option Value) (x n : Str) (C : Addr) : Prop where
  gC : mg x = some (.ref C)
  xf : XfC K C
  no : PySem.W.findIn K (.ref C) n = some none
  me : PySem.W.exmOne K (.ref C) (.ref C) = some true
def ToldBy (C : Addr) (n lab : Str) (Q : VK) : XK := fun cls d H => cls = .ref C ∧ ∃ (dd : Addr) (fs : List (Str × V)) (v : V), d = some dd ∧ H dd = some (.xd fs) ∧ fs.lookup n = some v ∧ ∀ p, H p = none → Q (.ref p) (upd H p (.tup [.str lab, v]))
def tsField (C : Addr) (i : Nat) (n lab : Str) : Addr → Value → Option Addr → TS := fun a cls d => tRet (tTup (tCons (tC (.str lab)) (tCons (tXf a cls d C n (tVar i)) tNil)))
theorem suiteField {X : Cx} {x n e lab : Str} {C a : Addr} {i j j2 : Nat} {oe : Obj} {cls : Value} {d : Option Addr} {pn : List (Addr × Obj)} {p1 p2 p3 p4 p5 : Pos} (T : HearC X.K X.mg x n C) (hz : Zc cls d oe) (hf : ∃ vs, oe.data = .fields vs) (hN : X.N[i]? = some e) (hv : Vis X.env.scope e)
    (hd : (e == ("__debug__" : Str)) = false := by decide) (hc : (e == ("__classdict__" : Str)) = false := by decide) (hb : attributeBase (.Name e p2) n X.env (eval (.Name e p2) X.env) = eval (.Name e p2) X.env := by rfl) :
    PSs (X.suite a ((a, oe) :: pn)) [.Return (some (.Tuple [.Constant (.str lab) j p1, .Attribute (.Name e p2) n p3] j2 p4)) p5] (tsField C i n lab a cls d) :=
  pss_one (ps_ret (pe_tup (pa_cons pe_str (pa_cons (pe_xf T.xf T.no hz hf (pe_var (i := i) hN hv hd hc) hb) pa_nil))))
theorem suiteField_ok {C a : Addr} {i : Nat} {n lab : Str} {d : Option Addr} {cls : Value} {D : Ends} {σ : L2.St} {H : Hp} {Q : VK} (h : ToldBy C n lab Q cls d H) (hs : σ[i]? = some (some (.ref a))) (hD : D.rt = Q) : tsField C i n lab a cls d D σ H := by
  obtain ⟨rfl, dd, fs, v, rfl, h1, h2, h3⟩ := h
  refine ⟨.ref a, hs, rfl, rfl, dd, fs, v, rfl, h1, h2, (by show 2 ≤ sizeLine; decide), fun p np => ?_⟩
  rw [hD]
  exact h3 p np
end Es
set_option Elab.async false
set_option linter.all false
set_option maxRecDepth 100000
set_option maxHeartbeats 4000000
namespace Es
open PySem PySem.Spec PyProof.Rows L2 LamX
abbrev noRows : Obj := { cls := .none, data := .fields #[] }
theorem lawT_at {P : Program} {w : World} {K : PySem.W.Frag} {mg mb : Str → Option Value} {k : Nat} {fa a : Addr} {cs : List (Addr × Addr)} {fd : FuncData} {x : Str} {sp : Sp} {t : Shared} {xs : List Value} {ns : List Int}
    (inK : K.In t.heap) (gns : t.heap.Ns mainGlobals mg) (bns : t.heap.Ns builtinsNs mb) (bst : ∀ x : Str, x ≠ "__name__" → mb x = bootBuiltins x) (lim : t.heap.NoLimit) (gen : t.gens = #[])
    (tabs : ∀ p ∈ cs, t.heap.get? p.2 = some noRows) (noK : ∀ p ∈ cs, K.lookup p.2 = none) (codes : ∀ p ∈ cs, PySem.W.CodeHd t.heap p.1 p.2)
    (bmod : ∃ (bm : Addr) (ob : Obj), mg "__builtins__" = some (.ref bm) ∧ bm ≠ builtinsNs ∧ t.heap.get? bm = some ob ∧ ob.cls = .type "module" ∧ ob.dict = some builtinsNs ∧ ob.data = .plain)
    (scr : t.heap.get? a = some { cls := .type "list", data := .seq xs.toArray }) (vals : Vals (ns.map V.int) xs) (short : ns.length ≤ sizeLine) (room : Room k callerA)
    (F : ∀ base : Heap, K.In base → base.Ns mainGlobals mg → (∀ p ∈ cs, TabB base mg p.1 p.2) → FnG P w K mg base k fa fd [x] sp) (bind : ∀ (s : Shared) (u : Value), BindsTo s fd ⟨[u], []⟩ [(x, u)])
    (want : ∀ H : Hp, (∀ p ∈ cs, H p.2 = some (.tbl #[])) → SqL K H a (ns.map V.int) → sp [.ref a] H (fun v _ => v = .bl true) E0) :
    codeAny (model P w) callerA (.call (.ref fa) ⟨[.ref a], []⟩) (fun r s' => r = .ok (.ret (.bool true)) ∧ PySem.OldK t.heap s'.heap ∧ s'.os = t.os ∧ AllBare s'.gens) t := by
  obtain ⟨T, eT⟩ : ∃ T : List Addr, T = cs.map (·.2) := ⟨_, rfl⟩
  have inT : ∀ {p}, p ∈ cs → p.2 ∈ T := fun {p} hp => by rw [eT]; exact List.mem_map.mpr ⟨p, hp, rfl⟩
  have ofT : ∀ {b}, b ∈ T → ∃ p ∈ cs, p.2 = b := fun {b} hb => by rw [eT] at hb; exact List.mem_map.mp hb
  have tab_ : ∀ {b}, b ∈ T → t.heap.get? b = some noRows := fun {b} hb => by
    obtain ⟨p, hp, rfl⟩ := ofT hb
    exact tabs p hp
  have notA : a ∉ T := fun z => by
    have q := (tab_ z).symm.trans scr
    have q := congrArg Obj.data (Option.some.inj q)
    cases q
  suffices core : ∀ H : Hp, (∀ b, b ∈ T → H b = some (.tbl #[])) → (∀ b, b ∉ T → b ≠ a → H b = none) → (H a = none ∨ (H a = some (.frz { cls := .type "list", data := .seq xs.toArray } (.lst (ns.map V.int))) ∧ K.lookup a = none)) → SqL K H a (ns.map V.int) →
      codeAny (model P w) callerA (.call (.ref fa) ⟨[.ref a], []⟩) (fun r s' => r = .ok (.ret (.bool true)) ∧ PySem.OldK t.heap s'.heap ∧ s'.os = t.os ∧ AllBare s'.gens) t by
    cases hk : K.lookup a with
    | some ob =>
      have e := inK a ob hk
      rw [scr] at e
      cases e
      refine core (fun b => if b ∈ T then some (.tbl #[]) else none) (fun b hb => if_pos hb) (fun b hb _ => if_neg hb) (.inl (if_neg notA)) (.inr ⟨_, xs.toArray, _, hk, rfl, rfl, rfl, ?_, ?_⟩)
      · have l := vals.length
        rw [List.length_map] at l
        rw [List.size_toArray, ← l]
        exact short
      · simpa using vals
    | none =>
      refine core (fun b => if b = a then some (.frz { cls := .type "list", data := .seq xs.toArray } (.lst (ns.map V.int))) else if b ∈ T then some (.tbl #[]) else none) (fun b hb => ?_) (fun b hb n => ?_) (.inr ⟨if_pos rfl, hk⟩) (.inl (.inr ⟨_, if_pos rfl⟩))
      · rw [if_neg (fun z => notA (by rw [← z]; exact hb)), if_pos hb]
      · rw [if_neg n, if_neg hb]
  intro H hT hN hA hS
  have held : HOk P w H t.heap := by
    intro b u z
    by_cases h1 : b ∈ T
    · have e := (hT b h1).symm.trans z
      cases e
      exact tab_ h1
    · by_cases h2 : b = a
      · subst h2
        rcases hA with q | ⟨q, _⟩
        · rw [q] at z; cases z
        · have e := q.symm.trans z
          cases e
          exact ⟨scr, by rw [List.length_map]; exact short, xs, _, vals, scr⟩
      · rw [hN b h1 h2] at z
        cases z
  have free : ∀ {b : Addr} {o : Obj}, t.heap.get? b = some o → (∀ vs n, o.data ≠ .seq vs n) → o.data ≠ .fields #[] → H b = none := by
    intro b o e n1 n2
    by_cases h1 : b ∈ T
    · have q := (tab_ h1).symm.trans e
      cases q
      exact (n2 rfl).elim
    · by_cases h2 : b = a
      · subst h2
        rw [scr] at e
        cases e
        exact (n1 _ _ rfl).elim
      · exact hN b h1 h2
  have seen : ∀ {b : Addr} {o : Obj}, t.heap.get? b = some o → (∀ vs n, o.data ≠ .seq vs n) → o.data ≠ .fields #[] → (hidT t.heap H).get? b = some o := fun e n1 n2 => hidT_get e (free e n1 n2)
  have dicts : ∀ {b : Addr} {m : Str → Option Value}, t.heap.Ns b m → (hidT t.heap H).Ns b m := by
    rintro b m ⟨o, es, ep, e, d, more⟩
    exact ⟨o, es, ep, seen e (fun vs n z => by rw [d] at z; cases z) (fun z => by rw [d] at z; cases z), d, more⟩
  have inB : K.In (hidT t.heap H) := by
    intro b o e
    refine hidT_get (inK b o e) ?_
    by_cases h1 : b ∈ T
    · obtain ⟨p, hp, rfl⟩ := ofT h1
      rw [noK p hp] at e
      cases e
    · by_cases h2 : b = a
      · subst h2
        rcases hA with q | ⟨_, q⟩
        · exact q
        · rw [q] at e; cases e
      · exact hN b h1 h2
  obtain ⟨mc, lm1, lm2⟩ := lim
  have md : Mod K mg (hidT t.heap H) := ⟨inB, dicts gns, ⟨mb, dicts bns, bst⟩, ⟨mc, dicts lm1, lm2⟩⟩
  have TB : ∀ p ∈ cs, TabB (hidT t.heap H) mg p.1 p.2 := by
    intro p hp
    have hp2 := tabs p hp
    have nG : mainGlobals ≠ p.2 := fun z => by
      obtain ⟨o, es, ep, e, d, _⟩ := gns
      rw [z, hp2] at e
      cases e
      cases d
    refine ⟨?_, ?_, nG⟩
    · obtain ⟨o, us, q1, q2, q3, q4, q5, q6, q7, e1, r1, r2, r3, more⟩ := codes p hp
      refine ⟨o, us, q1, q2, q3, q4, q5, q6, q7, seen e1 (fun vs n z => ?_) (fun z => ?_), r1, r2, r3, more⟩
      · rw [r2] at z
        cases z
      · rw [r2] at z
        cases z
        simp at r3
    · obtain ⟨bm, ob, b1, b2, b3, b4, b5, b6⟩ := bmod
      refine ⟨bm, ob, b1, b2, fun z => ?_, fun z => ?_, seen b3 (fun vs n z => by rw [b6] at z; cases z) (fun z => by rw [b6] at z; cases z), b4, b5, b6⟩
      · obtain ⟨o, es, ep, e, d, _⟩ := gns
        rw [z, e] at b3
        cases b3
        rw [d] at b6
        cases b6
      · rw [z, hp2] at b3
        cases b3
        cases b6
  have env : Env0 P w K mg (hidT t.heap H) callerA [] t H :=
    ⟨rfl, md, fun _ _ e => of_hidT e, Nat.le_of_eq (hidT_size _ _), trivial, (fun b hb => by cases hb), held, .of_eq gen⟩
  have run := (F _ inB (dicts gns) TB).runG (out := []) (t := t) (G := H) (ar := ⟨[.ref a], []⟩) (xs := [.ref a]) (ys := [.ref a]) room rfl env (bind t (.ref a)) (.cons rfl .nil) (want H (fun p hp => hT _ (inT hp)) hS)
  refine codeAny_mono run ?_
  intro r s' h
  cases r with
  | error e => exact False.elim h
  | ok fl =>
    cases fl with
    | next => exact False.elim h
    | brk => exact False.elim h
    | cont => exact False.elim h
    | ret u =>
      obtain ⟨v, H', os, bare, un, held', rel, q⟩ := h
      have q : v = .bl true := q
      subst q
      have rel : u = Value.bool true := rel
      subst rel
      have stays : ∀ b o, b ∉ T → t.heap.get? b = some o → s'.heap.get? b = some o := by
        intro b o nb e
        by_cases h2 : b = a
        · subst h2
          rcases hA with q | ⟨q, _⟩
          · exact un.keep b o e q (fun z => by cases z) (fun z => by cases z)
          · obtain ⟨g2, _⟩ := held' b _ (un.frzs b _ _ q)
            rw [scr] at e
            cases e
            exact g2
        · exact un.keep b o e (hN b nb h2) (fun z => by cases z) (fun z => by cases z)
      have grown : ∀ b, b ∈ T → ∃ more : Array Value, s'.heap.get? b = some { cls := .none, data := .fields more } := by
        intro b hb
        obtain ⟨more, z⟩ := un.tbls b #[] (hT b hb)
        exact ⟨_, held' b _ z⟩
      refine ⟨rfl, ⟨fun b o e => ?_, fun b o e => ?_⟩, os, bare⟩
      · by_cases hb : b ∈ T
        · obtain ⟨more, hm⟩ := grown b hb
          have e2 := (tab_ hb).symm.trans e
          cases e2
          obtain ⟨p, hp, rfl⟩ := ofT hb
          refine .inr (.inl ⟨((codes p hp).tab (tabs p hp)).isCodeTable, rfl, #[], more, rfl, ?_⟩)
          rw [Array.empty_append]
          exact hm
        · exact .inl (stays b o hb e)
      · by_cases hb : b ∈ T
        · obtain ⟨more, hm⟩ := grown b hb
          exact ⟨_, hm⟩
        · exact ⟨o, stays b o hb e⟩
theorem walkT {l : PySem.W.OpenLaw} {n k : Nat} {q : Program} {loose : List Str} {XP : (Str → Option Value) → Heap → Prop} {YP : World → Heap → Prop} {d : PySem.DefRec} {K : Params → PySem.W.Frag} {sp : PySem.W.Frag → Sp} {x : Str} {cs : List (Addr × Addr)}
    (hn : l.most = some n) (hn2 : n ≤ sizeLine) (hdf : d.params.defaults = []) (hr : Room k callerA)
    (hY : ∀ (w : World) (h : Heap), YP w h → (K w.params).In h) (hT : ∀ (w : World) (h : Heap), YP w h → ∀ p ∈ cs, h.get? p.2 = some noRows) (noK : ∀ w : World, ∀ p ∈ cs, (K w.params).lookup p.2 = none) (hc : ∀ w : World, ∀ p ∈ cs, PySem.W.codeHdIn (K w.params) p.1 p.2 = true)
    (F : ∀ (w : World) (mg : Str → Option Value) (fa : Addr) (h : Heap), (K w.params).In h → h.Ns mainGlobals mg → mg d.name = some (.ref fa) →
      ∃ fd : FuncData, (∀ (s : Shared) (u : Value), BindsTo s fd ⟨[u], []⟩ [(x, u)]) ∧
        ∀ base : Heap, (K w.params).In base → base.Ns mainGlobals mg → (∀ p ∈ cs, TabB base mg p.1 p.2) → FnG l.prog w (K w.params) mg base k fa fd [x] (sp (K w.params)))
    (hsp : ∀ (K : PySem.W.Frag) (H : Hp) (a : Addr) (ns : List Int), ns.length ≤ n → SqL K H a (ns.map V.int) → (∀ p ∈ cs, H p.2 = some (.tbl #[])) → sp K [.ref a] H (fun v _ => v = .bl true) E0) :
    PySem.W.WalkO q loose XP YP l.row.toRowW d [] (fun f vs => PySem.call f vs) := by
  refine Att.attach_callB hn hdf ?_
  intro w s₀ t mg mb fa o pm cd doc a xs ns G Y ho hd hcd hmg scr hints len bits gen
  have inK := hY w _ Y
  obtain ⟨fd, bind, FF⟩ := F w mg fa _ inK G.T.g hmg
  exact lawT_at inK G.T.g G.T.b G.T.builtins G.T.nolimit gen (hT w _ Y) (noK w) (fun p hp => PySem.W.codeHd_of_K inK (hc w p hp)) G.T.bmain scr (vals_ints hints) (Nat.le_trans len hn2) hr FF bind (fun H h1 h2 => hsp _ H a ns len h2 h1)
end Es
namespace Es
open PySem PySem.Spec PyProof.Rows L2 LamX
theorem walkT1 {l : PySem.W.OpenLaw} {n k : Nat} {q : Program} {loose : List Str} {XP : (Str → Option Value) → Heap → Prop} {YP : World → Heap → Prop} {d : PySem.DefRec} {K : Params → PySem.W.Frag} {sp : Addr → PySem.W.Frag → Sp} {x : Str} {c P : Addr}
    (hn : l.most = some n) (hn2 : n ≤ sizeLine) (hdf : d.params.defaults = []) (hr : Room k callerA)
    (hY : ∀ (w : World) (h : Heap), YP w h → (K w.params).In h) (hT : ∀ (w : World) (h : Heap), YP w h → h.get? P = some noRows) (noK : ∀ w : World, (K w.params).lookup P = none)
    (F : ∀ (w : World) (mg : Str → Option Value) (fa : Addr) (h : Heap), (K w.params).In h → h.Ns mainGlobals mg → mg d.name = some (.ref fa) →
      ∃ fd : FuncData, (∀ (s : Shared) (u : Value), BindsTo s fd ⟨[u], []⟩ [(x, u)]) ∧
        ∀ base : Heap, (K w.params).In base → base.Ns mainGlobals mg → TabB base mg c P → FnG l.prog w (K w.params) mg base k fa fd [x] (sp P (K w.params)))
    (hc : ∀ w : World, PySem.W.codeHdIn (K w.params) c P = true)
    (hsp : ∀ (K : PySem.W.Frag) (H : Hp) (a : Addr) (ns : List Int), ns.length ≤ n → SqL K H a (ns.map V.int) → H P = some (.tbl #[]) → sp P K [.ref a] H (fun v _ => v = .bl true) E0) :
    PySem.W.WalkO q loose XP YP l.row.toRowW d [] (fun f vs => PySem.call f vs) := by
  refine walkT (cs := [(c, P)]) (sp := sp P) (x := x) hn hn2 hdf hr hY (fun w h Y p hp => ?_) (fun w p hp => ?_) (fun w p hp => ?_) (fun w mg fa h a b e => ?_) (fun K H a ns h1 h2 h3 => hsp K H a ns h1 h2 (h3 _ List.mem_cons_self))
  · rw [List.mem_singleton.mp hp]; exact hT w h Y
  · rw [List.mem_singleton.mp hp]; exact noK w
  · rw [List.mem_singleton.mp hp]; exact hc w
  · obtain ⟨fd, h1, h2⟩ := F w mg fa h a b e
    exact ⟨fd, h1, fun base i1 i2 i3 => h2 base i1 i2 (i3 _ List.mem_cons_self)⟩
end Es
set_option Elab.async false
set_option linter.all false
set_option maxRecDepth 100000
set_option maxHeartbeats 4000000
namespace Es
open PySem PySem.Spec PyProof.Rows L2
def topS (i : Nat) : Stmt := PySem.Challenge.pw_eithersums_k03_books_and_their_models.main.body.getD i (.Pass ⟨0, 0, 0, 0⟩)
abbrev s_worth_of : Stmt := topS 6
theorem sc_worth_of : FnScope ["row", "bits", "unknown"] ["row", "bits"] (defScope s_worth_of) := ⟨rfl, rfl, rfl, by decide +kernel, rfl, by decide +kernel, by decide +kernel⟩
abbrev s_holds : Stmt := topS 9
theorem sc_holds : FnScope ["line", "bits", "row", "bit"] ["line", "bits"] (defScope s_holds) := ⟨rfl, rfl, rfl, by decide +kernel, rfl, by decide +kernel, by decide +kernel⟩
abbrev s_keeps : Stmt := topS 10
theorem sc_keeps : FnScope ["clause", "bits", "line"] ["clause", "bits"] (defScope s_keeps) := ⟨rfl, rfl, rfl, by decide +kernel, rfl, by decide +kernel, by decide +kernel⟩
abbrev s_missed : Stmt := topS 11
theorem sc_missed : FnScope ["book", "bits", "index", "clause"] ["book", "bits"] (defScope s_missed) := ⟨rfl, rfl, rfl, by decide +kernel, rfl, by decide +kernel, by decide +kernel⟩
abbrev s_models_of : Stmt := topS 12
theorem sc_models_of : FnScope ["book", "many", "clauses", "found", "unknown", "ripe", "clause", "longer", "bits", "bit"] ["book"] (defScope s_models_of) := ⟨rfl, rfl, rfl, by decide +kernel, rfl, by decide +kernel, by decide +kernel⟩
abbrev s_clauses_of : Stmt := topS 13
theorem sc_clauses_of : FnScope ["book", "lot", "index"] ["book", "lot"] (defScope s_clauses_of) := ⟨rfl, rfl, rfl, by decide +kernel, rfl, by decide +kernel, by decide +kernel⟩
abbrev s_with_clause : Stmt := topS 14
theorem sc_with_clause : FnScope ["book", "clause"] ["book", "clause"] (defScope s_with_clause) := ⟨rfl, rfl, rfl, by decide +kernel, rfl, by decide +kernel, by decide +kernel⟩
abbrev s_without_clause : Stmt := topS 15
theorem sc_without_clause : FnScope ["book", "index"] ["book", "index"] (defScope s_without_clause) := ⟨rfl, rfl, rfl, by decide +kernel, rfl, by decide +kernel, by decide +kernel⟩
abbrev s_last_unknown : Stmt := topS 16
theorem sc_last_unknown : FnScope ["clause", "row", "bit"] ["clause"] (defScope s_last_unknown) := ⟨rfl, rfl, rfl, by decide +kernel, rfl, by decide +kernel, by decide +kernel⟩
abbrev s_keeps_all : Stmt := topS 17
theorem sc_keeps_all : FnScope ["clauses", "bits", "clause"] ["clauses", "bits"] (defScope s_keeps_all) := ⟨rfl, rfl, rfl, by decide +kernel, rfl, by decide +kernel, by decide +kernel⟩
abbrev s_law_bag : Stmt := topS 19
theorem sc_law_bag : FnScope ["script", "cell"] ["script"] (defScope s_law_bag) := ⟨rfl, rfl, rfl, by decide +kernel, rfl, by decide +kernel, by decide +kernel⟩
abbrev s_law_take : Stmt := topS 20
theorem sc_law_take : FnScope ["bag", "many", "cell", "stirred", "value", "begin", "second"] ["bag", "many"] (defScope s_law_take) := ⟨rfl, rfl, rfl, by decide +kernel, rfl, by decide +kernel, by decide +kernel⟩
abbrev s_law_some : Stmt := topS 21
theorem sc_law_some : FnScope ["bag", "things"] ["bag", "things"] (defScope s_law_some) := ⟨rfl, rfl, rfl, by decide +kernel, rfl, by decide +kernel, by decide +kernel⟩
abbrev s_law_mixed : Stmt := topS 22
theorem sc_law_mixed : FnScope ["bag", "things", "found", "thing"] ["bag", "things"] (defScope s_law_mixed) := ⟨rfl, rfl, rfl, by decide +kernel, rfl, by decide +kernel, by decide +kernel⟩
abbrev s_law_alike : Stmt := topS 23
theorem sc_law_alike : FnScope ["found", "due"] ["found", "due"] (defScope s_law_alike) := ⟨rfl, rfl, rfl, by decide +kernel, rfl, by decide +kernel, by decide +kernel⟩
abbrev s_law_mask : Stmt := topS 24
theorem sc_law_mask : FnScope ["row", "found", "unknown"] ["row"] (defScope s_law_mask) := ⟨rfl, rfl, rfl, by decide +kernel, rfl, by decide +kernel, by decide +kernel⟩
abbrev s_law_row : Stmt := topS 25
theorem sc_law_row : FnScope ["mask", "unknown"] ["mask"] (defScope s_law_row) := ⟨rfl, rfl, rfl, by decide +kernel, rfl, by decide +kernel, by decide +kernel⟩
abbrev s_law_worth : Stmt := topS 26
theorem sc_law_worth : FnScope ["row", "bits", "unknown"] ["row", "bits"] (defScope s_law_worth) := ⟨rfl, rfl, rfl, by decide +kernel, rfl, by decide +kernel, by decide +kernel⟩
abbrev s_law_room : Stmt := topS 27
theorem sc_law_room : FnScope ["many", "whole", "columns", "unknown", "side", "block", "found", "at"] ["many"] (defScope s_law_room) := ⟨rfl, rfl, rfl, by decide +kernel, rfl, by decide +kernel, by decide +kernel⟩
abbrev s_law_held : Stmt := topS 28
theorem sc_law_held : FnScope ["room", "line", "found", "unknown"] ["room", "line"] (defScope s_law_held) := ⟨rfl, rfl, rfl, by decide +kernel, rfl, by decide +kernel, by decide +kernel⟩
abbrev s_law_kept : Stmt := topS 29
theorem sc_law_kept : FnScope ["room", "clause", "found", "line"] ["room", "clause"] (defScope s_law_kept) := ⟨rfl, rfl, rfl, by decide +kernel, rfl, by decide +kernel, by decide +kernel⟩
abbrev s_law_all_kept : Stmt := topS 30
theorem sc_law_all_kept : FnScope ["room", "clauses", "found", "clause"] ["room", "clauses"] (defScope s_law_all_kept) := ⟨rfl, rfl, rfl, by decide +kernel, rfl, by decide +kernel, by decide +kernel⟩
abbrev s_law_bits : Stmt := topS 31
theorem sc_law_bits : FnScope ["room", "place", "unknown"] ["room", "place"] (defScope s_law_bits) := ⟨rfl, rfl, rfl, by decide +kernel, rfl, by decide +kernel, by decide +kernel⟩
abbrev s_law_least : Stmt := topS 32
theorem sc_law_least : FnScope ["room", "some"] ["room", "some"] (defScope s_law_least) := ⟨rfl, rfl, rfl, by decide +kernel, rfl, by decide +kernel, by decide +kernel⟩
abbrev s_law_listed : Stmt := topS 33
theorem sc_law_listed : FnScope ["room", "some", "found"] ["room", "some"] (defScope s_law_listed) := ⟨rfl, rfl, rfl, by decide +kernel, rfl, by decide +kernel, by decide +kernel⟩
abbrev s_law_flat_of : Stmt := topS 34
theorem sc_law_flat_of : FnScope ["lines", "heads", "row", "bit", "mask", "head", "at"] ["lines"] (defScope s_law_flat_of) := ⟨rfl, rfl, rfl, by decide +kernel, rfl, by decide +kernel, by decide +kernel⟩
abbrev s_law_told : Stmt := topS 35
theorem sc_law_told : FnScope ["flat", "row", "mask", "found", "line"] ["flat", "row"] (defScope s_law_told) := ⟨rfl, rfl, rfl, by decide +kernel, rfl, by decide +kernel, by decide +kernel⟩
abbrev s_law_halves : Stmt := topS 36
theorem sc_law_halves : FnScope ["flat", "row", "bit"] ["flat", "row"] (defScope s_law_halves) := ⟨rfl, rfl, rfl, by decide +kernel, rfl, by decide +kernel, by decide +kernel⟩
abbrev s_law_any_row : Stmt := topS 37
theorem sc_law_any_row : FnScope ["bag", "many", "mask", "turn"] ["bag", "many"] (defScope s_law_any_row) := ⟨rfl, rfl, rfl, by decide +kernel, rfl, by decide +kernel, by decide +kernel⟩
abbrev s_law_any_clause : Stmt := topS 38
theorem sc_law_any_clause : FnScope ["bag", "many", "most", "few", "lines", "turn"] ["bag", "many", "most"] (defScope s_law_any_clause) := ⟨rfl, rfl, rfl, by decide +kernel, rfl, by decide +kernel, by decide +kernel⟩
abbrev s_law_spoken : Stmt := topS 39
theorem sc_law_spoken : FnScope ["bag", "flat", "lines", "row", "bit", "turn", "one", "other", "mask"] ["bag", "flat"] (defScope s_law_spoken) := ⟨rfl, rfl, rfl, by decide +kernel, rfl, by decide +kernel, by decide +kernel⟩
abbrev s_law_new_row : Stmt := topS 40
theorem sc_law_new_row : FnScope ["bag", "many", "flat", "turn", "row", "heads", "line", "unknown"] ["bag", "many", "flat"] (defScope s_law_new_row) := ⟨rfl, rfl, rfl, by decide +kernel, rfl, by decide +kernel, by decide +kernel⟩
abbrev s_law_cut_up : Stmt := topS 41
theorem sc_law_cut_up : FnScope ["bag", "many", "most", "found", "turn", "at", "halves"] ["bag", "many", "most"] (defScope s_law_cut_up) := ⟨rfl, rfl, rfl, by decide +kernel, rfl, by decide +kernel, by decide +kernel⟩
abbrev s_law_wider : Stmt := topS 42
theorem sc_law_wider : FnScope ["bag", "flat", "line"] ["bag", "flat"] (defScope s_law_wider) := ⟨rfl, rfl, rfl, by decide +kernel, rfl, by decide +kernel, by decide +kernel⟩
abbrev s_law_cover_book : Stmt := topS 43
theorem sc_law_cover_book : FnScope ["bag", "many", "most", "flats", "flat", "found", "turn"] ["bag", "many", "most"] (defScope s_law_cover_book) := ⟨rfl, rfl, rfl, by decide +kernel, rfl, by decide +kernel, by decide +kernel⟩
abbrev s_law_planted_book : Stmt := topS 44
theorem sc_law_planted_book : FnScope ["bag", "many", "most", "bits", "found", "unknown", "turn", "row", "clause"] ["bag", "many", "most"] (defScope s_law_planted_book) := ⟨rfl, rfl, rfl, by decide +kernel, rfl, by decide +kernel, by decide +kernel⟩
abbrev s_law_chain_book : Stmt := topS 45
theorem sc_law_chain_book : FnScope ["bag", "many", "bits", "rows", "last", "unknown", "turn", "lines", "row", "found", "line"] ["bag", "many"] (defScope s_law_chain_book) := ⟨rfl, rfl, rfl, by decide +kernel, rfl, by decide +kernel, by decide +kernel⟩
abbrev s_law_beside_book : Stmt := topS 46
theorem sc_law_beside_book : FnScope ["bag", "one", "other", "order", "found", "first", "book", "clause", "lines", "unknown", "row", "bit"] ["bag", "one", "other"] (defScope s_law_beside_book) := ⟨rfl, rfl, rfl, by decide +kernel, rfl, by decide +kernel, by decide +kernel⟩
abbrev s_law_any_book : Stmt := topS 47
theorem sc_law_any_book : FnScope ["bag", "many", "most", "turn"] ["bag", "many", "most"] (defScope s_law_any_book) := ⟨rfl, rfl, rfl, by decide +kernel, rfl, by decide +kernel, by decide +kernel⟩
abbrev s_law_book : Stmt := topS 48
theorem sc_law_book : FnScope ["bag", "many", "most", "way", "less", "other", "found", "at"] ["bag", "many", "most"] (defScope s_law_book) := ⟨rfl, rfl, rfl, by decide +kernel, rfl, by decide +kernel, by decide +kernel⟩
abbrev s_law_is_missed_right : Stmt := topS 50
theorem sc_law_is_missed_right : FnScope ["bag", "book", "bits", "unknown", "due", "at", "clause", "worths", "row", "bit", "line", "again", "told"] ["bag", "book"] (defScope s_law_is_missed_right) := ⟨rfl, rfl, rfl, by decide +kernel, rfl, by decide +kernel, by decide +kernel⟩
abbrev s_law_are_models_right : Stmt := topS 51
theorem sc_law_are_models_right : FnScope ["book", "room", "due", "again", "told"] ["book"] (defScope s_law_are_models_right) := ⟨rfl, rfl, rfl, by decide +kernel, rfl, by decide +kernel, by decide +kernel⟩
abbrev s_law_are_parts_right : Stmt := topS 52
theorem sc_law_are_parts_right : FnScope ["bag", "book", "many", "clauses", "lot", "k", "clause", "told", "due"] ["bag", "book"] (defScope s_law_are_parts_right) := ⟨rfl, rfl, rfl, by decide +kernel, rfl, by decide +kernel, by decide +kernel⟩
abbrev s_law : Stmt := topS 53
theorem sc_law : FnScope ["script", "bag", "turn", "book", "kept", "many", "wide", "unknown"] ["script"] (defScope s_law) := ⟨rfl, rfl, rfl, by decide +kernel, rfl, by decide +kernel, by decide +kernel⟩
structure Txt (mg : Str → Option Value) : Prop where
  z_sum : mg "sum" = none
  z_enumerate : mg "enumerate" = none
  z_range : mg "range" = none
  z_tuple : mg "tuple" = none
  z_max : mg "max" = none
  z_abs : mg "abs" = none
  z_int : mg "int" = none
  z_len : mg "len" = none
  z_repr : mg "repr" = none
  z_sorted : mg "sorted" = none
  z_list : mg "list" = none
  z_min : mg "min" = none
  z_set : mg "set" = none
  g_MOST_UNKNOWNS : ∃ t, mg "MOST_UNKNOWNS" = some (.int 12 t)
end Es
set_option Elab.async false
set_option linter.all false
set_option maxRecDepth 100000
set_option maxHeartbeats 4000000
namespace Es
open PySem PySem.Spec PyProof.Rows L2
section
variable {P : Program} {w : World} {K : PySem.W.Frag} {mg : Str → Option Value} {base : Heap}
theorem ok_law_bag {f : Addr} {fd : FuncData} (F : Fun K "_law_bag" "_law_bag" s_law_bag f fd) (T : Txt mg)  : FnG P w K mg base 1 f fd ["script"] (sp_law_bag K) := by
  refine okG F sc_law_bag (fun h => ?_) (fun cdv B out t0 G ys R E hr hg h => ?_)
  · obtain ⟨a, ns, rfl, _⟩ := h
    rfl
  · obtain ⟨a, ns, rfl, hS, hl, k⟩ := h
    refine ⟨_, (pss_one
        (ps_ret (pe_lst (pa_cons pe_int (pa_cons pe_int (pa_cons pe_int (pa_cons (pe_lc (own := [("cell", 1)]) rfl sc_law_bag.nd (pi_list (pe_slice sl_list (pv 0) po_none (po_some pe_int))) (blkOk_by (own := [("cell", 1)]) (N := ["script", "cell"]) (sc := defScope s_law_bag) (by decide +kernel)) (fun _ _ _ _ _ => (pg_name (i := 1) sc_law_bag.nd rfl (.inl rfl))) (fun _ _ _ _ _ => pts_nil) (fun _ _ _ _ _ => (pe_callB call_abs (by rfl) T.z_abs (by decide +kernel) (pa_cons (pv 1) pa_nil)))) pa_nil))))))), ?_⟩
    refine ⟨_, rfl, _, rfl, a, _, rfl, hS, fun p np => ?_⟩
    have s0 := same_new (o := .lst (cutV (ns.map V.int) none (some 63))) np
    obtain ⟨ds, eds, dsl⟩ : ∃ ds : List Int, cutV (ns.map V.int) none (some 63) = ds.map V.int ∧ ds.length ≤ ns.length := by
      have hl := cutV_length (ns.map V.int) none (some 63)
      unfold cutV at hl ⊢
      rw [← List.map_drop, ← List.map_take] at hl ⊢
      exact ⟨_, rfl, by simpa using hl⟩
    rw [eds] at s0 ⊢
    refine ⟨p, rfl, ⟨_, .inl (.inl upd_same)⟩, fun D hD => ?_⟩
    have nGD : G D = none := s0.free hD
    refine lc_list (K := K) (a := p) (xs := ds.map V.int) (fun i H => ∃ cs : List Int, H D = some (.lst (cs.map V.int)) ∧ Same (upd G p (.lst (ds.map V.int))) H ∧ cs.length = i ∧ ∀ c ∈ cs, 0 ≤ c)
      ⟨[], upd_same, same_new hD, rfl, fun c hc => by cases hc⟩ (fun i H _ ⟨_, _, s, _⟩ => .inl (.inl (s _ _ upd_same))) ?_ ?_
    · rintro i x H hi ⟨cs, ec, sa, lc, c0⟩
      obtain ⟨z, rfl⟩ : ∃ z, x = V.int z := by
        rw [List.getElem?_map] at hi
        cases e : ds[i]? with
        | none => rw [e] at hi; cases hi
        | some z => rw [e] at hi; exact ⟨z, (Option.some.inj hi).symm⟩
      have hil : i < ds.length := by
        have := (List.getElem?_eq_some_iff.mp hi).1
        simpa using this
      refine ⟨rfl, _, rfl, _, rfl, _, ec, ?_, cs ++ [if z < 0 then -z else z], ?_, same_mut sa hD, by simp [lc], ?_⟩
      · rw [List.length_map, lc]
        exact small1000 (by omega)
      · rw [upd_same]
        simp
      · intro c hc
        rcases List.mem_append.mp hc with hc | hc
        · exact c0 c hc
        · have hc : c = if z < 0 then -z else z := by simpa using hc
          subst hc
          split <;> omega
    · rintro H ⟨cs, ec, sa, lc, c0⟩
      refine ⟨by show 4 ≤ sizeLine; decide, fun b nb => ?_⟩
      have sb := same_new (o := .lst [V.int 0, V.int 1234567891, V.int 0, V.ref D]) nb
      refine k _ b D ((s0.trans sa).trans sb) ((s0.trans sa).free nb) nGD ⟨0, 1234567891, 0, cs, upd_same, .inl (.inl (sb _ _ ec)), ?_, by decide, by decide, by decide, by decide, c0, ?_⟩
      · exact (ne_of_none ec nb).symm
      · rw [lc, List.length_map]
        omega
end
end Es
set_option Elab.async false
set_option linter.all false
set_option maxRecDepth 100000
set_option maxHeartbeats 4000000
namespace Es
open PySem PySem.Spec PyProof.Rows L2
section
variable {P : Program} {w : World} {K : PySem.W.Frag} {mg : Str → Option Value} {base : Heap}
theorem ok_law_take {f : Addr} {fd : FuncData} (F : Fun K "_law_take" "_law_take" s_law_take f fd) (T : Txt mg)  : FnG P w K mg base 1 f fd ["bag", "many"] (sp_law_take K) := by
  refine okG F sc_law_take (fun h => ?_) (fun cdv B out t0 G ys R E hr hg h => ?_)
  · obtain ⟨b, c, n, rfl, _⟩ := h
    rfl
  · obtain ⟨b, c, n, rfl, ⟨x, y, z, cs, hb, hc, nbc, x0, y0, y1, z0, cs0, cl⟩, n0, n1, k⟩ := h
    have hu := hu_of hr
    refine ⟨_, (Evl.pss_cut
        (ps_if (pt_cmpR op_eq (pe_ix ix_list (pv 0) pe_int (fun _ _ => rfl)) pe_int (nomark _))
        (pss_cons
          (ps_set (i := 2) sc_law_take.nd rfl (Or.inl rfl) (pe_ix ix_list (pe_op op_cat (pe_slice sl_list (pe_ix ix_list (pv 0) pe_int (fun _ _ => rfl)) (po_some (pe_ix ix_list (pv 0) pe_int (fun _ _ => rfl))) po_none) (pe_lst (pa_cons pe_int pa_nil))) pe_int (fun _ _ => rfl)))
          (pss_cons
          (ps_augS (pv 0) pe_int get_list pe_int ip_add set_list)
          (Evl.pss_cut
          (ps_if (pt_cmpR op_ge (pv 2) (pe_op op_pow pe_int pe_int) (nomark _))
          (pss_one
            (ps_asg (pv 2) (pg_sub (pv 0) pe_int set_list)))
          pss_nil)
          (pss_cons
          (ps_set (i := 3) sc_law_take.nd rfl (Or.inl rfl) (pe_op op_add (pe_op op_add (pe_op op_mul (pe_ix ix_list (pv 0) pe_int (fun _ _ => rfl)) pe_int) (pe_op op_mod (pe_callTy call_int1 (by rfl) T.z_int (by decide +kernel) (pa_cons (pv 2) pa_nil)) pe_int)) (pe_op op_mul pe_int (pe_ix ix_list (pv 0) pe_int (fun _ _ => rfl)))))
          (pss_one
          (ps_asg (pe_op op_mod (pe_callTy call_int1 (by rfl) T.z_int (by decide +kernel) (pa_cons (pv 3) pa_nil)) pe_int) (pg_sub (pv 0) pe_int set_list)))))))
        pss_nil)
        (pss_cons
        (ps_if (pt_cmpR op_gt (pe_ix ix_list (pv 0) pe_int (fun _ _ => rfl)) pe_int (nomark _))
        (pss_cons
          (ps_set (i := 4) sc_law_take.nd rfl (Or.inl rfl) (pe_op op_mod (pe_callTy call_int1 (by rfl) T.z_int (by decide +kernel) (pa_cons (pe_ix ix_list (pv 0) pe_int (fun _ _ => rfl)) pa_nil)) (pv 1)))
          (pss_cons
          (ps_asg (pe_op op_fdiv (pe_callTy call_int1 (by rfl) T.z_int (by decide +kernel) (pa_cons (pe_ix ix_list (pv 0) pe_int (fun _ _ => rfl)) pa_nil)) (pv 1)) (pg_sub (pv 0) pe_int set_list))
          (pss_one
          (ps_ret (pv 4)))))
        pss_nil)
        (pss_cons
        (ps_set (i := 5) sc_law_take.nd rfl (Or.inl rfl) (pe_op op_mod (pe_callTy call_int1 (by rfl) T.z_int (by decide +kernel) (pa_cons (pe_op op_mul (pe_op op_add (pe_ix ix_list (pv 0) pe_int (fun _ _ => rfl)) pe_int) pe_int) pa_nil)) pe_int))
        (pss_cons
        (ps_set (i := 6) sc_law_take.nd rfl (Or.inl rfl) (pe_op op_mod (pe_callTy call_int1 (by rfl) T.z_int (by decide +kernel) (pa_cons (pe_op op_mul (pe_op op_mod (pe_callTy call_int1 (by rfl) T.z_int (by decide +kernel) (pa_cons (pe_op op_mul (pv 5) (pv 5)) pa_nil)) pe_int) pe_int) pa_nil)) pe_int))
        (pss_one
        (ps_ret (pe_op op_mod (pe_callTy call_int1 (by rfl) T.z_int (by decide +kernel) (pa_cons (pe_op op_fdiv (pv 6) pe_int) pa_nil)) (pv 1)))))))), ?_⟩
    refine ⟨fun σ' H' => ∃ y2 y3, σ' = [some (.ref b), some (.int (n : Int)), y2, y3, none, none, none] ∧ But b G H' ∧ BagAt K H' b c, ?_, ?_⟩
    ·
      refine ⟨_, rfl, b, _, 0, _, rfl, rfl, .inl (.inl hb), atI_nat (j := 0) rfl, rfl, _, rfl, ite2 (fun _ => ?_) (fun _ => ?_)⟩
      ·
        refine ⟨_, rfl, b, _, 3, _, rfl, rfl, .inl (.inl hb), atI_nat (j := 3) rfl, _, rfl, b, _, 2, _, rfl, rfl, .inl (.inl hb), atI_nat (j := 2) rfl, z, rfl, c, _, rfl, hc, fun p np => ?_⟩
        have s1 := same_new (o := .lst (cutV (cs.map V.int) (some z) none)) np
        obtain ⟨ds, eds, ds0, dsl⟩ := cut_ints cs (some z) none cs0
        refine ⟨by show 1 ≤ sizeLine; decide, fun q nq => ?_⟩
        have s2 := s1.trans (same_new (o := .lst [V.int 0]) nq)
        refine ⟨p, q, _, _, rfl, rfl, same_new nq _ _ upd_same, upd_same, ?_, fun t nt => ?_⟩
        · rw [eds, List.length_map]
          show ds.length + 1 ≤ sizeLine
          exact Nat.le_trans (show ds.length + 1 ≤ 100 by omega) (by decide)
        have s3 := s2.trans (same_new (o := .lst (cutV (cs.map V.int) (some z) none ++ [V.int 0])) nt)
        obtain ⟨e0, ee0, e00⟩ : ∃ e0 : Int, (cutV (cs.map V.int) (some z) none ++ [V.int 0])[0]? = some (.int e0) ∧ 0 ≤ e0 := by
          rw [eds]
          cases ds with
          | nil => exact ⟨0, rfl, Int.le_refl _⟩
          | cons d0 dr => exact ⟨d0, rfl, ds0 d0 List.mem_cons_self⟩
        refine ⟨t, _, 0, _, rfl, rfl, .inl (.inl upd_same), atI_nat (j := 0) ee0, ?_⟩
        have hb3 := s3 _ _ hb
        refine ⟨_, rfl, b, _, 2, _, rfl, rfl, .inl (.inl hb3), rfl, _, _, rfl, rfl, b, _, 2, 2, rfl, rfl, hb3, rfl, ?_⟩
        refine ⟨fun σ' H' => ∃ x', σ' = [some (.ref b), some (.int (n : Int)), some (.int e0), none, none, none, none] ∧ But b G H' ∧ H' b = some (.lst [.int x', .int y, .int (z + 1), .ref c]) ∧ SqL K H' c (cs.map V.int) ∧ 0 ≤ x', ?_, ?_⟩
        · refine ⟨_, rfl, _, _, rfl, rfl, ⟨by decide, by decide, by decide⟩, _, _, rfl, rfl, _, rfl, ite2 (fun _ => ?_) (fun _ => ?_)⟩
          · refine ⟨_, rfl, _, rfl, b, _, 0, 0, rfl, rfl, upd_same, rfl, ?_⟩
            refine ⟨e0, rfl, ((But.same s3).trans But.at_).trans But.at_, upd_same, sqL_but nbc.symm But.at_ (sqL_but nbc.symm But.at_ (s3.seq hc)), e00⟩
          · exact ⟨x, rfl, (But.same s3).trans But.at_, upd_same, sqL_but nbc.symm But.at_ (s3.seq hc), x0⟩
        · rintro σ' H' ⟨x', rfl, s4, hb4, hc4, x0'⟩
          refine ⟨_, rfl, b, _, 1, _, rfl, rfl, .inl (.inl hb4), atI_nat (j := 1) rfl, _, _, rfl, rfl, .inr ⟨by decide, by decide⟩, _, rfl, .inl ⟨_, rfl, _, _, rfl, rfl, (by show (0 : Int) < 2147483647; decide), _, _, rfl, rfl,
            _, rfl, b, _, 2, _, rfl, rfl, .inl (.inl hb4), atI_nat (j := 2) rfl, _, _, rfl, rfl, .inl ⟨by decide, by decide⟩, _, _, rfl, rfl, ?_⟩⟩
          refine ⟨_, rfl, .inl ⟨_, rfl, _, _, rfl, rfl, (by show (0 : Int) < 2147483647; decide), _, rfl, b, _, 1, 1, rfl, rfl, hb4, rfl, ?_⟩⟩
          refine ⟨_, _, rfl, s4.trans But.at_, x', _, z + 1, cs, upd_same, sqL_but nbc.symm But.at_ hc4, nbc, x0', Int.emod_nonneg _ (by decide), Int.emod_lt_of_pos _ (by decide), by omega, cs0, cl⟩
      · exact ⟨_, _, rfl, But.refl _ _, x, y, z, cs, hb, hc, nbc, x0, y0, y1, z0, cs0, cl⟩
    · rintro σ' H' ⟨y2, y3, rfl, s1, x, y, z, cs, hb, hc, nbc, x0, y0, y1, z0, cs0, cl⟩
      refine ⟨_, rfl, b, _, 0, _, rfl, rfl, .inl (.inl hb), atI_nat (j := 0) rfl, _, _, rfl, rfl, _, rfl, ite2 (fun _ => ?_) (fun _ => ?_)⟩
      ·
        refine ⟨_, rfl, b, _, 0, _, rfl, rfl, .inl (.inl hb), atI_nat (j := 0) rfl, .inl ⟨_, rfl, _, rfl, _, _, rfl, rfl, by omega, ?_⟩⟩
        refine ⟨_, rfl, b, _, 0, _, rfl, rfl, .inl (.inl hb), atI_nat (j := 0) rfl, .inl ⟨_, rfl, _, rfl, _, _, rfl, rfl, ⟨by omega, by omega⟩, _, rfl, b, _, 0, 0, rfl, rfl, hb, rfl, ?_⟩⟩
        obtain ⟨r, er⟩ : ∃ r : Nat, x % (n : Int) = (r : Int) := ⟨(x % (n : Int)).toNat, (Int.toNat_of_nonneg (Int.emod_nonneg _ (by omega))).symm⟩
        refine ⟨_, rfl, ?_⟩
        show R (V.int (x % (n : Int))) _
        rw [er]
        refine k _ r (s1.trans But.at_) ⟨_, y, z, cs, upd_same, sqL_but nbc.symm But.at_ hc, nbc, Int.ediv_nonneg x0 (by omega), y0, y1, z0, cs0, cl⟩ ?_
        have := Int.emod_lt_of_pos x (b := (n : Int)) (by omega)
        omega
      ·
        have t1 : ∀ a : Int, (0 : Int) ≤ a % 1000000007 ∧ a % 1000000007 < 1000000007 := fun a => ⟨Int.emod_nonneg _ (by decide), Int.emod_lt_of_pos _ (by decide)⟩
        have t2 : ∀ a : Int, (0 : Int) ≤ a % 998244353 ∧ a % 998244353 < 998244353 := fun a => ⟨Int.emod_nonneg _ (by decide), Int.emod_lt_of_pos _ (by decide)⟩
        refine ⟨_, rfl, b, _, 1, _, rfl, rfl, .inl (.inl hb), atI_nat (j := 1) rfl, _, _, rfl, rfl, _, _, rfl, rfl, .inr ⟨by decide, by decide⟩, .inl ⟨_, rfl, _, _, rfl, rfl, (by show (0 : Int) < 1000000007; decide), ?_⟩⟩
        refine ⟨_, rfl, _, rfl, _, _, rfl, rfl, .inl ⟨by have := t1 ((y + 1) * 39373); omega, by have := t1 ((y + 1) * 39373); omega⟩, .inl ⟨_, rfl, _, _, rfl, rfl, (by show (0 : Int) < 998244353; decide), _, _, rfl, rfl, .inr ⟨by decide, by decide⟩, .inl ⟨_, rfl, _, _, rfl, rfl, (by show (0 : Int) < 998244353; decide), ?_⟩⟩⟩
        refine ⟨_, rfl, _, _, rfl, rfl, ⟨by decide, by decide⟩, .inl ⟨_, rfl, _, rfl, _, _, rfl, rfl, by omega, ?_⟩⟩
        show R (V.int (_ % (n : Int))) _
        generalize (_ : Int) / 7 = q
        obtain ⟨r, er⟩ : ∃ r : Nat, q % (n : Int) = (r : Int) := ⟨(q % (n : Int)).toNat, (Int.toNat_of_nonneg (Int.emod_nonneg _ (by omega))).symm⟩
        rw [er]
        refine k _ r s1 ⟨x, y, z, cs, hb, hc, nbc, x0, y0, y1, z0, cs0, cl⟩ ?_
        have := Int.emod_lt_of_pos q (b := (n : Int)) (by omega)
        omega
end
end Es
set_option Elab.async false
set_option linter.all false
set_option maxRecDepth 100000
set_option maxHeartbeats 4000000
namespace Es
open PySem PySem.Spec PyProof.Rows L2
section
variable {P : Program} {w : World} {K : PySem.W.Frag} {mg : Str → Option Value} {base : Heap}
theorem ok_law_some {f : Addr} {fd : FuncData} (F : Fun K "_law_some" "_law_some" s_law_some f fd) (T : Txt mg) (c_law_take : CalleeOf P w K mg base 1 "_law_take" ["bag", "many"] (sp_law_take K)) : FnG P w K mg base 2 f fd ["bag", "things"] (sp_law_some K) := by
  refine okG F sc_law_some (fun h => ?_) (fun cdv B out t0 G ys R E hr hg h => ?_)
  · obtain ⟨b, c, l, xs, rfl, _⟩ := h
    rfl
  · obtain ⟨b, c, l, xs, rfl, hB, nlb, hl, h0, h1, k⟩ := h
    refine ⟨_, (pss_one
        (ps_ret (pe_ix ix_seq (pv 1) (pe_callC c_law_take (hr.mono (by decide)) hg (by rfl) (pa_cons (pv 0) (pa_cons (pe_callB call_len_seq (by rfl) T.z_len (by decide +kernel) (pa_cons (pv 1) pa_nil)) pa_nil))) (fun _ _ => rfl)))), ?_⟩
    refine ⟨_, rfl, _, rfl, _, rfl, l, xs, rfl, hl, b, c, xs.length, rfl, hB, h0, h1, fun H1 r s1 B1 hr1 => ?_⟩
    have e : xs[r]? = some xs[r] := List.getElem?_eq_getElem hr1
    have q := k H1 r xs[r] s1 B1 e
    rcases hl with hl | hl
    · exact .inl ⟨l, xs, r, xs[r], rfl, rfl, sqL_but nlb s1 hl, atI_nat e, q⟩
    · exact .inr (.inl ⟨l, xs, r, xs[r], rfl, rfl, sqT_bag hB s1 hl, atI_nat e, q⟩)
end
end Es
set_option Elab.async false
set_option linter.all false
set_option maxRecDepth 100000
set_option maxHeartbeats 4000000
namespace Es
open PySem PySem.Spec PyProof.Rows L2
section
variable {P : Program} {w : World} {K : PySem.W.Frag} {mg : Str → Option Value} {base : Heap}
theorem ok_law_row {f : Addr} {fd : FuncData} (F : Fun K "_law_row" "_law_row" s_law_row f fd) (T : Txt mg)  : FnG P w K mg base 1 f fd ["mask"] (sp_law_row K) := by
  refine okG F sc_law_row (fun h => ?_) (fun cdv B out t0 G ys R E hr hg h => ?_)
  · obtain ⟨m, rfl, _⟩ := h
    rfl
  · obtain ⟨m, rfl, hm, k⟩ := h
    refine ⟨_, (pss_one
        (ps_ret (pe_callTy call_tuple_of (by rfl) T.z_tuple (by decide +kernel) (pa_cons (pe_lc (own := [("unknown", 1)]) rfl sc_law_row.nd (pi_range1 (by rfl) T.z_range (pa_cons (pe_bits (pv 0)) pa_nil)) (blkOk_by (own := [("unknown", 1)]) (N := ["mask", "unknown"]) (sc := defScope s_law_row) (by decide +kernel)) (fun _ _ _ _ _ => (pg_name (i := 1) sc_law_row.nd rfl (.inl rfl))) (fun _ _ _ _ _ => (pts_one (pt_cmpR op_eq (pe_op op_and (pe_op op_shr (pv 0) (pv 1)) pe_int) pe_int (nomark _)))) (fun _ _ _ _ _ => (pv 1))) pa_nil)))), ?_⟩
    have hb : Builtin.Int.intBits (m : Int) ≤ 63 := intBits_le (by omega)
    refine ⟨_, rfl, _, rfl, _, rfl, by omega, by omega, fun D hD => ?_⟩
    refine lc_range (lo := 0) (n := Builtin.Int.intBits (m : Int)) (fun i H => ∃ acc : List Nat, H D = some (.lst (iv acc)) ∧ Same G H ∧ acc.length ≤ i ∧ acc = (List.range i).filter fun j => m.testBit j)
      ⟨[], upd_same, same_new hD, Nat.le_refl _, rfl⟩ ?_ ?_
    · rintro i H hi ⟨acc, ea, sa, la, eacc⟩
      have e0 : (0 : Int) + (i : Int) = (i : Int) := Int.zero_add _
      rw [e0]
      refine ⟨rfl, _, rfl, _, rfl, _, _, rfl, rfl, Int.natCast_nonneg _, _, _, rfl, rfl, rfl, _, rfl, ?_⟩
      have nx : (List.range (i + 1)).filter (fun j => m.testBit j) = acc ++ (if m.testBit i = true then [i] else []) := by
        rw [List.range_succ, List.filter_append, ← eacc]
        congr 1
        cases q : m.testBit i <;> simp [q]
      have sa1 := shr_and m i
      refine ite2 (fun hc => ?_) (fun hc => ?_)
      · have q : m.testBit i = true := by
          cases q : m.testBit i with
          | true => rfl
          | false =>
            rw [q, if_neg Bool.false_ne_true] at sa1
            have z := V.int.inj (of_decide_eq_true hc)
            rw [sa1] at z
            cases z
        refine ⟨_, rfl, iv acc, ea, ?_, acc ++ [i], ?_, same_mut sa hD, by simp; omega, ?_⟩
        · rw [iv_len]
          exact small1000 (by omega)
        · rw [upd_same]
          simp [iv]
        · rw [nx, q, if_pos rfl]
      · have q : m.testBit i = false := by
          cases q : m.testBit i with
          | false => rfl
          | true =>
            rw [q, if_pos rfl] at sa1
            exact absurd (decide_eq_true (congrArg V.int sa1)) hc
        exact ⟨acc, ea, sa, by omega, by rw [nx, q, if_neg Bool.false_ne_true, List.append_nil]⟩
    · rintro H ⟨acc, ea, sa, la, eacc⟩
      have e : acc = bts m := by
        refine bts_of (eacc ▸ List.Pairwise.filter _ List.pairwise_lt_range) fun u => ?_
        rw [eacc, List.mem_filter, List.mem_range]
        constructor
        · rintro ⟨h1, h2⟩
          exact ⟨by omega, h2⟩
        · rintro ⟨h1, h2⟩
          refine ⟨?_, h2⟩
          refine Nat.lt_of_not_le fun z => ?_
          have : m < 2 ^ u := by
            refine Nat.lt_of_lt_of_le ?_ (Nat.pow_le_pow_right (by decide) z)
            exact lt_bits m
          rw [Nat.testBit_lt_two_pow this] at h2
          cases h2
      refine ⟨D, _, rfl, .inl ⟨.inl (.inl ea), fun p np => ?_⟩⟩
      rw [e]
      exact k _ p (sa.trans (same_new np)) (sa.free np) upd_same
end
end Es
set_option Elab.async false
set_option linter.all false
set_option maxRecDepth 100000
set_option maxHeartbeats 4000000
namespace Es
open PySem PySem.Spec PyProof.Rows L2
section
variable {P : Program} {w : World} {K : PySem.W.Frag} {mg : Str → Option Value} {base : Heap}
theorem ok_law_any_row {f : Addr} {fd : FuncData} (F : Fun K "_law_any_row" "_law_any_row" s_law_any_row f fd) (T : Txt mg) (c_law_some : CalleeOf P w K mg base 2 "_law_some" ["bag", "things"] (sp_law_some K)) (c_law_take : CalleeOf P w K mg base 1 "_law_take" ["bag", "many"] (sp_law_take K)) (c_law_row : CalleeOf P w K mg base 1 "_law_row" ["mask"] (sp_law_row K)) : FnG P w K mg base 3 f fd ["bag", "many"] (sp_law_any_row K) := by
  refine okG F sc_law_any_row (fun h => ?_) (fun cdv B out t0 G ys R E hr hg h => ?_)
  · obtain ⟨b, c, n, rfl, _⟩ := h
    rfl
  · obtain ⟨b, c, n, rfl, hB, n0, n62, k⟩ := h
    refine ⟨_, (pss_cons
        (ps_set (i := 2) sc_law_any_row.nd rfl (Or.inl rfl) pe_int)
        (pss_cons
        (ps_for PassesOwn.never rfl (pi_range1 (by rfl) T.z_range (pa_cons (pe_callC c_law_some (hr.mono (by decide)) hg (by rfl) (pa_cons (pv 0) (pa_cons (pe_lst (pa_cons pe_int (pa_cons pe_int (pa_cons pe_int (pa_cons pe_int (pa_cons (pv 1) pa_nil)))))) pa_nil))) pa_nil)) (pg_name (i := 3) sc_law_any_row.nd rfl (.inl rfl))
        (pss_one
          (ps_set (i := 2) sc_law_any_row.nd rfl (Or.inl rfl) (pe_op op_xor (pv 2) (pe_op op_shl pe_int (pe_callC c_law_take (hr.mono (by decide)) hg (by rfl) (pa_cons (pv 0) (pa_cons (pv 1) pa_nil))))))))
        (pss_one
        (ps_ret (pe_ifExp (pt_cmpR op_gt (pv 2) pe_int (nomark _)) (pe_callC c_law_row (hr.mono (by decide)) hg (by rfl) (pa_cons (pv 2) pa_nil)) (pe_tup (pa_cons (pe_callC c_law_take (hr.mono (by decide)) hg (by rfl) (pa_cons (pv 0) (pa_cons (pv 1) pa_nil))) pa_nil))))))), ?_⟩
    have p63 : 2 ^ n < 2 ^ 63 := Nat.pow_lt_pow_right (by decide) (by omega)
    obtain ⟨ys0, eb0⟩ := hB.lst
    refine ⟨_, rfl, _, rfl, (by show 5 ≤ sizeLine; decide), fun l nl => ?_⟩
    have sl := same_new (o := .lst [V.int 1, V.int 2, V.int 2, V.int 3, V.int (n : Int)]) nl
    refine ⟨b, c, l, _, rfl, hB.same sl, (ne_of_none eb0 nl).symm, .inl (.inl (.inl upd_same)), by show 0 < 5; decide, by show 5 < 1073741824; decide, fun H1 r v s1 B1 hv => ?_⟩
    obtain ⟨j, rfl, j0, j1⟩ : ∃ j : Int, v = .int j ∧ 0 ≤ j ∧ j ≤ 62 := by
      rcases r with _ | _ | _ | _ | _ | r
      · exact ⟨1, (Option.some.inj hv).symm, by decide, by decide⟩
      · exact ⟨2, (Option.some.inj hv).symm, by decide, by decide⟩
      · exact ⟨2, (Option.some.inj hv).symm, by decide, by decide⟩
      · exact ⟨3, (Option.some.inj hv).symm, by decide, by decide⟩
      · exact ⟨n, (Option.some.inj hv).symm, by omega, by omega⟩
      · simp at hv
    have sG := (But.same (b := b) sl).trans s1
    refine ⟨j, rfl, by omega, by omega, for_range (lo := 0) (n := j.toNat) (fun i σ H => ∃ m y3, σ = [some (.ref b), some (.int (n : Int)), some (.int ((m : Nat) : Int)), y3] ∧ But b G H ∧ BagAt K H b c ∧ m < 2 ^ n)
      ⟨0, none, rfl, sG, B1, Nat.two_pow_pos n⟩ ?_ ?_⟩
    · rintro i σ H hi ⟨m, y3, rfl, s2, B2, hm⟩
      refine ⟨_, rfl, _, rfl, _, rfl, b, c, n, rfl, B2, n0, by omega, fun H2 r2 s3 B3 h3 => ?_⟩
      refine ⟨_, _, rfl, rfl, ⟨by omega, by omega, by decide⟩, _, _, rfl, rfl, ?_⟩
      refine ⟨m ^^^ 2 ^ r2, some (V.int (0 + (i : Int))), ?_, s2.trans s3, B3, Nat.xor_lt_two_pow hm (Nat.pow_lt_pow_right (by decide) h3)⟩
      show [some (V.ref b), some (V.int (n : Int)), some (V.int (Builtin.bitXor (m : Int) (1 * 2 ^ ((r2 : Int).toNat)))), _] = _
      rw [shl_one, xor_nat]
    · rintro σ H ⟨m, y3, rfl, s2, B2, hm⟩
      refine ⟨_, rfl, _, _, rfl, rfl, _, rfl, ite2 (fun hc => ?_) (fun hc => ?_)⟩
      · have hc := of_decide_eq_true hc
        refine ⟨_, rfl, m, rfl, Nat.lt_trans hm p63, fun H2 p s3 np ep => ?_⟩
        exact k _ _ m (s2.trans (But.same s3)) (B2.same s3) ⟨p, rfl, .inl (.inl ep)⟩ hm (by omega)
      · refine ⟨_, rfl, _, rfl, b, c, n, rfl, B2, n0, by omega, fun H2 r2 s3 B3 h3 => ?_⟩
        refine ⟨(by show 1 ≤ sizeLine; decide), fun t nt => ?_⟩
        have st := same_new (o := .tup [V.int (r2 : Int)]) nt
        refine k _ _ (2 ^ r2) ((s2.trans s3).trans (But.same st)) (B3.same st) ⟨t, rfl, .inl (.inl ?_)⟩ (Nat.pow_lt_pow_right (by decide) h3) (Nat.ne_of_gt (Nat.two_pow_pos _))
        rw [bts_pow (by omega)]
        exact upd_same
end
end Es
set_option Elab.async false
set_option linter.all false
set_option maxRecDepth 100000
set_option maxHeartbeats 4000000
namespace Es
open PySem PySem.Spec PyProof.Rows L2
section
variable {P : Program} {w : World} {K : PySem.W.Frag} {mg : Str → Option Value} {base : Heap}
theorem ok_law_any_clause {f : Addr} {fd : FuncData} (F : Fun K "_law_any_clause" "_law_any_clause" s_law_any_clause f fd) (T : Txt mg) (c_law_take : CalleeOf P w K mg base 1 "_law_take" ["bag", "many"] (sp_law_take K)) (c_law_any_row : CalleeOf P w K mg base 3 "_law_any_row" ["bag", "many"] (sp_law_any_row K)) : FnG P w K mg base 4 f fd ["bag", "many", "most"] (sp_law_any_clause K) := by
  refine okG F sc_law_any_clause (fun h => ?_) (fun cdv B out t0 G ys R E hr hg h => ?_)
  · obtain ⟨b, c, n, k, rfl, _⟩ := h
    rfl
  · obtain ⟨b, c, n, k, rfl, hB, n0, n62, k60, kk⟩ := h
    refine ⟨_, (pss_cons
        (ps_set (i := 3) sc_law_any_clause.nd rfl (Or.inl rfl) (pe_via (pe_ifExp (pt_cmpR op_eq (pe_callC c_law_take (hr.mono (by decide)) hg (by rfl) (pa_cons (pv 0) (pa_cons pe_int pa_nil))) pe_int (nomark _)) (pe_callC c_law_take (hr.mono (by decide)) hg (by rfl) (pa_cons (pv 0) (pa_cons (pe_op op_add (pv 2) pe_int) pa_nil))) (pe_callB (call_min2 rfl) (by rfl) T.z_min (by decide +kernel) (pa_cons (pv 2) (pa_cons (pe_op op_add pe_int (pe_callC c_law_take (hr.mono (by decide)) hg (by rfl) (pa_cons (pv 0) (pa_cons (pe_callB (call_max2 rfl) (by rfl) T.z_max (by decide +kernel) (pa_cons pe_int (pa_cons (pv 2) pa_nil))) pa_nil)))) pa_nil))))))
        (pss_cons
        (ps_setLc (i := 4) (own := [("turn", 5)]) rfl sc_law_any_clause.nd rfl rfl (sw_true rfl rfl rfl (by decide +kernel)) (pi_range1 (by rfl) T.z_range (pa_cons (pv 3) pa_nil)) (blkOk_by (own := [("turn", 5)]) (N := ["bag", "many", "most", "few", "lines", "turn"]) (sc := defScope s_law_any_clause) (by decide +kernel)) (fun _ _ _ _ _ => (pg_name (i := 5) sc_law_any_clause.nd rfl (.inl rfl))) (fun _ _ _ _ _ => pts_nil) (fun _ _ _ _ _ => (pe_tup (pa_cons (pe_callC c_law_any_row (hr.mono (by decide)) hg (by rfl) (pa_cons (pv 0) (pa_cons (pv 1) pa_nil))) (pa_cons (pe_callC c_law_take (hr.mono (by decide)) hg (by rfl) (pa_cons (pv 0) (pa_cons pe_int pa_nil))) pa_nil)))))
        (pss_one
        (ps_ret (pe_callTy call_tuple_of (by rfl) T.z_tuple (by decide +kernel) (pa_cons (pe_callB (cr_sortedKeys rfl hr.units) (by rfl) T.z_sorted (by decide +kernel) (pa_cons (pe_callTy (cr_keySetL rfl hr.units) (by rfl) T.z_set (by decide +kernel) (pa_cons (pv 4) pa_nil)) pa_nil)) pa_nil)))))), ?_⟩
    obtain ⟨yg, eg⟩ := hB.lst
    refine ⟨fun v H => ∃ q : Nat, v = .int (q : Int) ∧ q ≤ k ∧ But b G H ∧ BagAt K H b c, ?_, ?_⟩
    · refine ⟨_, rfl, b, c, 12, rfl, hB, by decide, by decide, fun H1 r s1 B1 hr => ⟨rfl, _, rfl, ite2 (fun _ => ?_) (fun _ => ?_)⟩⟩
      · exact ⟨_, rfl, _, rfl, _, _, rfl, rfl, b, c, k + 1, rfl, B1, by omega, by omega, fun H2 r2 s2 B2 h2 => ⟨r2, rfl, by omega, s1.trans s2, B2⟩⟩
      · have em : (if (k : Int) > 1 then (k : Int) else 1) = ((max 1 k : Nat) : Int) := by split <;> omega
        refine ⟨_, rfl, _, rfl, _, rfl, _, _, rfl, b, c, max 1 k, ?_, B1, by omega, by omega, fun H2 r2 s2 B2 h2 => ⟨_, _, rfl, rfl, _, _, rfl, min k (1 + r2), ?_, Nat.min_le_left _ _, s1.trans s2, B2⟩⟩
        · show [V.ref b, V.int (if (k : Int) > 1 then (k : Int) else 1)] = _
          rw [em]
        · show V.int (if 1 + (r2 : Int) < (k : Int) then 1 + (r2 : Int) else (k : Int)) = _
          congr 1
          split <;> omega
    rintro v H1 ⟨q, rfl, hq, s1, B1⟩
    refine ⟨_, rfl, (q : Int), rfl, by omega, by omega, fun D hD => ?_⟩
    have nDG : G D = none := by
      obtain ⟨y1, e1⟩ := B1.lst
      exact s1.free (fun z => by rw [z] at hD; rw [hD] at e1; cases e1) hD
    have nDb : D ≠ b := fun z => by rw [z] at nDG; rw [nDG] at eg; cases eg
    refine lc_range (lo := 0) (n := q) (fun i H => ∃ zs ls, H D = some (.lst zs) ∧ But b G H ∧ BagAt K H b c ∧ Paired (LineV K H) zs ls ∧ (∀ l ∈ ls, l.1 < 2 ^ n ∧ l.1 ≠ 0 ∧ l.2 < 2) ∧ zs.length = i)
      ⟨[], [], upd_same, but_mut s1 nDG, BagAt.mut hB nDG B1, .nil, (fun l h => by cases h), rfl⟩ ?_ ?_
    · rintro i H hi ⟨zs, ls, eD, s2, B2, hP, hl, lz⟩
      refine ⟨rfl, _, rfl, _, rfl, b, c, n, rfl, B2, n0, n62, fun H3 v m s3 B3 hv hm nz => ?_⟩
      obtain ⟨y2, e2⟩ := B2.lst
      obtain ⟨y3, e3⟩ := B3.lst
      refine ⟨_, rfl, b, c, 2, rfl, B3, by decide, by decide, fun H4 r s4 B4 hr => ⟨(by show 2 ≤ sizeLine; decide), fun t nt => ?_⟩⟩
      have st := same_new (o := .tup [v, V.int (r : Int)]) nt
      have eD4 := st _ _ (s4 _ _ nDb (s3 _ _ nDb eD))
      refine ⟨zs, eD4, small1000 (by omega), zs ++ [V.ref t], ls ++ [(m, r)], upd_same, but_mut (((s2.trans s3).trans s4).trans (But.same st)) nDG, BagAt.mut hB nDG (B4.same st), ?_, ?_, by simp [lz]⟩
      · exact PySem.Paired.snoc (lines_but eD4 But.at_ (lines_same st (lines_but e3 s4 (lines_but e2 s3 hP)))) (LineV.but eD4 But.at_ ⟨t, v, rfl, .inl (.inl upd_same), (hv.but e3 s4).same st⟩)
      · intro l h
        rcases List.mem_append.mp h with h | h
        · exact hl l h
        · have h : l = (m, r) := by simpa using h
          rw [h]
          exact ⟨hm, nz, hr⟩
    rintro H2 ⟨zs, ls, eD, s2, B2, hP, hl, lz⟩
    obtain ⟨cs, rfl, rfl, hlv⟩ := lines_refs hP
    rw [List.length_map] at lz
    refine ⟨_, rfl, .inr ⟨D, cs.map keyed, rfl, by rw [List.map_map]; exact .inl (.inl eD), fun e he => ?_, by rw [List.length_map]; omega, fun S L nS h1 h2 nd => ?_⟩⟩
    · obtain ⟨d, hd, rfl⟩ := List.mem_map.mp he
      exact keyed_ok (hlv d hd)
    obtain ⟨ds, rfl, hd⟩ := keyed_back L h1
    have s6 := same_new (o := KeySetO P w S (ds.map keyed)) nS
    obtain ⟨f1, f2, f3⟩ := keyed_facts (ds := ds)
    refine ⟨S, _, rfl, upd_same, fun e he => ?_, f1, f2, f3, fun L' q2 pm nq => ?_⟩
    · obtain ⟨d, hd2, rfl⟩ := List.mem_map.mp he
      exact keyed_ok ((hlv d (hd d hd2)).same s6)
    obtain ⟨es, ee, he, le⟩ := byData_back h1 nd pm
    rw [ee, List.map_map]
    have s7 := s6.trans (same_new (o := .lst (es.map ((fun e => V.ref e.1) ∘ keyed))) nq)
    refine ⟨q2, _, rfl, .inl ⟨.inl (.inl upd_same), fun p np => ?_⟩⟩
    have s8 := s7.trans (same_new (o := .tup (es.map ((fun e => V.ref e.1) ∘ keyed))) np)
    refine kk _ _ (es.map fun d : Addr × (Nat × Nat) => d.2) (s2.trans (But.same s8)) (B2.same s8) ⟨p, _, rfl, .inl (.inl upd_same), refs_lines fun d h => (hlv d (he d h)).same s8⟩ (fun l h => ?_) ?_
    · obtain ⟨d, hm, rfl⟩ := List.mem_map.mp h
      exact hl d.2 (List.mem_map.mpr ⟨d, he d hm, rfl⟩)
    · rw [List.length_map]
      omega
end
end Es
set_option Elab.async false
set_option linter.all false
set_option maxRecDepth 100000
set_option maxHeartbeats 4000000
namespace Es
open PySem PySem.Spec PyProof.Rows L2
section
variable {P : Program} {w : World} {K : PySem.W.Frag} {mg : Str → Option Value} {base : Heap}
theorem ok_law_any_book {f : Addr} {fd : FuncData} (F : Fun K "_law_any_book" "_law_any_book" s_law_any_book f fd) (T : Txt mg) (c_law_take : CalleeOf P w K mg base 1 "_law_take" ["bag", "many"] (sp_law_take K)) (c_law_any_clause : CalleeOf P w K mg base 4 "_law_any_clause" ["bag", "many", "most"] (sp_law_any_clause K)) (c_law_some : CalleeOf P w K mg base 2 "_law_some" ["bag", "things"] (sp_law_some K)) : FnG P w K mg base 5 f fd ["bag", "many", "most"] (sp_law_any_bookZ K) := by
  refine okG F sc_law_any_book (fun h => ?_) (fun cdv B out t0 G ys R E hr hg h => ?_)
  · obtain ⟨b, c, n, k, rfl, _⟩ := h
    rfl
  · obtain ⟨b, c, n, k, rfl, hB, n62, k60, kk⟩ := h
    refine ⟨_, (pss_cons
        (ps_if (pt_cmpR op_eq (pv 1) pe_int (nomark _))
        (pss_one
          (ps_ret (pe_tup (pa_cons pe_int (pa_cons (pe_op op_repA (pe_tup (pa_cons (pe_tup pa_nil) pa_nil)) (pe_callC c_law_take (hr.mono (by decide)) hg (by rfl) (pa_cons (pv 0) (pa_cons (pe_callB (call_min2 rfl) (by rfl) T.z_min (by decide +kernel) (pa_cons pe_int (pa_cons (pe_op op_add (pv 2) pe_int) pa_nil))) pa_nil)))) pa_nil)))))
        pss_nil)
        (pss_cons
        (ps_set (i := 2) sc_law_any_book.nd rfl (Or.inl rfl) (pe_callC c_law_take (hr.mono (by decide)) hg (by rfl) (pa_cons (pv 0) (pa_cons (pe_op op_add (pv 2) pe_int) pa_nil))))
        (pss_one
        (ps_ret (pe_tup (pa_cons (pv 1) (pa_cons (pe_callTy call_tuple_of (by rfl) T.z_tuple (by decide +kernel) (pa_cons (pe_lc (own := [("turn", 3)]) rfl sc_law_any_book.nd (pi_range1 (by rfl) T.z_range (pa_cons (pv 2) pa_nil)) (blkOk_by (own := [("turn", 3)]) (N := ["bag", "many", "most", "turn"]) (sc := defScope s_law_any_book) (by decide +kernel)) (fun _ _ _ _ _ => (pg_name (i := 3) sc_law_any_book.nd rfl (.inl rfl))) (fun _ _ _ _ _ => pts_nil) (fun _ _ _ _ _ => (pe_callC c_law_any_clause (hr.mono (by decide)) hg (by rfl) (pa_cons (pv 0) (pa_cons (pv 1) (pa_cons (pe_callC c_law_some (hr.mono (by decide)) hg (by rfl) (pa_cons (pv 0) (pa_cons (pe_lst (pa_cons pe_int (pa_cons pe_int (pa_cons pe_int (pa_cons pe_int pa_nil))))) pa_nil))) pa_nil)))))) pa_nil)) pa_nil))))))), ?_⟩
    obtain ⟨yg, eg⟩ := hB.lst
    refine ⟨_, rfl, rfl, _, rfl, ite2 (fun hc => ?_) (fun hc => ?_)⟩
    · have n0 : n = 0 := by
        have := V.int.inj (of_decide_eq_true hc)
        omega
      subst n0
      refine ⟨(by show 0 ≤ sizeLine; decide), fun t0 nt0 => ⟨(by show 1 ≤ sizeLine; decide), fun t1 nt1 => ?_⟩⟩
      have s1 := same_new (o := .tup []) nt0
      have s2 := same_new (o := .tup [V.ref t0]) nt1
      have em : (if ((k : Int) + 1) < 3 then ((k : Int) + 1) else 3) = ((min 3 (k + 1) : Nat) : Int) := by split <;> omega
      refine ⟨_, rfl, _, rfl, _, _, rfl, rfl, _, _, rfl, b, c, min 3 (k + 1), ?_, hB.same (s1.trans s2), by omega, by omega, fun H3 r s3 B3 hr => ?_⟩
      · show [V.ref b, V.int (if ((k : Int) + 1) < 3 then ((k : Int) + 1) else 3)] = _
        rw [em]
      have b3 := hB.same (s1.trans s2)
      obtain ⟨y3, e3⟩ := b3.lst
      refine rep_one (x := V.ref t0) (sqT_but e3 s3 (.inl (.inl upd_same))) (by omega) fun H4 p s4 hp => ⟨(by show 2 ≤ sizeLine; decide), fun t nt => ?_⟩
      have s5 := same_new (o := .tup [V.int 0, V.ref p]) nt
      have h0 : LinesV K (upd H4 t (.tup [V.int 0, V.ref p])) (.ref t0) [] := ⟨t0, [], rfl, sqT_same (s4.trans s5) (sqT_but e3 s3 (sqT_same s2 (.inl (.inl upd_same)))), .nil⟩
      refine kk _ _ (List.replicate r []) (((But.same (s1.trans s2)).trans s3).trans (But.same (s4.trans s5))) (B3.same (s4.trans s5)) ⟨t, p, _, rfl, .inl (.inl upd_same), sqT_same s5 hp, paired_rep h0 r⟩ (fun ls h => ?_) (by rw [List.length_replicate]; omega)
      · rw [List.eq_of_mem_replicate h]
        exact ⟨(fun l h => by cases h), Nat.zero_le _⟩
    · have n0 : 0 < n := Nat.pos_of_ne_zero fun z => hc (decide_eq_true (by rw [z]; rfl))
      refine ⟨_, rfl, _, rfl, _, _, rfl, rfl, b, c, k + 1, rfl, hB, by omega, by omega, fun H1 q s1 B1 hq => ?_⟩
      refine ⟨_, rfl, _, rfl, (q : Int), rfl, by omega, by omega, fun D hD => ?_⟩
      have nDG : G D = none := by
        obtain ⟨y1, e1⟩ := B1.lst
        exact s1.free (fun z => by rw [z] at hD; rw [hD] at e1; cases e1) hD
      have nDb : D ≠ b := fun z => by rw [z] at nDG; rw [nDG] at eg; cases eg
      refine lc_range (lo := 0) (n := q) (fun i H => ∃ zs cs, H D = some (.lst zs) ∧ But b G H ∧ BagAt K H b c ∧ Paired (LinesV K H) zs cs ∧ (∀ ls ∈ cs, ClOkZ n ls) ∧ zs.length = i)
        ⟨[], [], upd_same, but_mut s1 nDG, BagAt.mut hB nDG B1, .nil, (fun l h => by cases h), rfl⟩ ?_ ?_
      · rintro i H hi ⟨zs, cs, eD, s2, B2, hP, hl, lz⟩
        obtain ⟨y2, e2⟩ := B2.lst
        refine ⟨rfl, _, rfl, _, rfl, _, rfl, (by show 4 ≤ sizeLine; decide), fun l nl => ?_⟩
        have sl := same_new (o := .lst [V.int 1, V.int 2, V.int 3, V.int 4]) nl
        refine ⟨b, c, l, _, rfl, B2.same sl, (ne_of_none e2 nl).symm, .inl (.inl (.inl upd_same)), by decide, by decide, fun H3 r v s3 B3 hv => ?_⟩
        obtain ⟨j, rfl, j7⟩ : ∃ j : Nat, v = .int (j : Int) ∧ j ≤ 4 := by
          rcases r with _ | _ | _ | _ | r
          · exact ⟨1, (Option.some.inj hv).symm, by decide⟩
          · exact ⟨2, (Option.some.inj hv).symm, by decide⟩
          · exact ⟨3, (Option.some.inj hv).symm, by decide⟩
          · exact ⟨4, (Option.some.inj hv).symm, by decide⟩
          · cases hv
        obtain ⟨y3, e3⟩ := B3.lst
        obtain ⟨y2', e2'⟩ := (B2.same sl).lst
        refine ⟨b, c, n, j, rfl, B3, n0, n62, by omega, fun H4 v4 ls s4 B4 hv4 hl4 ll4 => ?_⟩
        have eD4 := s4 _ _ nDb (s3 _ _ nDb (sl _ _ eD))
        refine ⟨zs, eD4, small1000 (by omega), zs ++ [v4], cs ++ [ls], upd_same, but_mut (((s2.trans (But.same sl)).trans s3).trans s4) nDG, BagAt.mut hB nDG B4, ?_, ?_, by simp [lz]⟩
        · refine PySem.Paired.snoc (Paired.mono2 (fun _ _ h => LinesV.but eD4 But.at_ (LinesV.but e3 s4 (LinesV.but e2' s3 (h.same sl)))) hP) (LinesV.but eD4 But.at_ hv4)
        · intro ls' h
          rcases List.mem_append.mp h with h | h
          · exact hl ls' h
          · have h : ls' = ls := by simpa using h
            rw [h]
            exact ⟨hl4, by omega⟩
      rintro H2 ⟨zs, cs, eD, s2, B2, hP, hl, lz⟩
      have lc := Paired.len hP
      refine ⟨D, zs, rfl, .inl ⟨.inl (.inl eD), fun p np => ⟨(by show 2 ≤ sizeLine; decide), fun t nt => ?_⟩⟩⟩
      have s3 := same_new (o := .tup zs) np
      have s4 := same_new (o := .tup [V.int (n : Int), V.ref p]) nt
      exact kk _ _ cs (s2.trans (But.same (s3.trans s4))) (B2.same (s3.trans s4)) ⟨t, p, zs, rfl, .inl (.inl upd_same), .inl (.inl (s4 _ _ upd_same)), Paired.mono2 (fun _ _ h => LinesV.same (s3.trans s4) h) hP⟩ hl (by omega)
end
end Es
set_option Elab.async false
set_option linter.all false
set_option maxRecDepth 100000
set_option maxHeartbeats 4000000
namespace Es
open PySem PySem.Spec PyProof.Rows L2
section
variable {P : Program} {w : World} {K : PySem.W.Frag} {mg : Str → Option Value} {base : Heap}
theorem ok_law_worth {f : Addr} {fd : FuncData} (F : Fun K "_law_worth" "_law_worth" s_law_worth f fd) (T : Txt mg)  : FnG P w K mg base 1 f fd ["row", "bits"] (sp_law_worthS K) := by
  refine okG F sc_law_worth (fun h => ?_) (fun cdv B out t0 G ys R E hr hg h => ?_)
  · obtain ⟨v, b, m, bs, rfl, _⟩ := h
    rfl
  · obtain ⟨v, b, m, bs, rfl, ⟨p, rfl, hp⟩, hb, hlt, k⟩ := h
    refine ⟨_, (pss_one
        (ps_ret (pe_op op_mod (pe_callTy call_int1 (by rfl) T.z_int (by decide +kernel) (pa_cons (pe_callB (cr_sum rfl) (by rfl) T.z_sum (by decide +kernel) (pa_cons (pe_lc (own := [("unknown", 2)]) rfl sc_law_worth.nd (pi_tup (pv 0)) (blkOk_by (own := [("unknown", 2)]) (N := ["row", "bits", "unknown"]) (sc := defScope s_law_worth) (by decide +kernel)) (fun _ _ _ _ _ => (pg_name (i := 2) sc_law_worth.nd rfl (.inl rfl))) (fun _ _ _ _ _ => pts_nil) (fun _ _ _ _ _ => (pe_ix (r := rIx K) ix_seq (pv 1) (pv 2) (fun _ _ => rfl)))) pa_nil)) pa_nil)) pe_int))), ?_⟩
    refine ⟨_, rfl, p, rfl, ⟨_, hp⟩, fun D hD => ?_⟩
    refine lc_tup (K := K) (a := p) (xs := iv (bts m)) (fun i H => H D = some (.lst (iv (((bts m).take i).map fun u => bs.getD u 0))) ∧ Same G H) ⟨upd_same, same_new hD⟩ (fun i H _ h => sqT_same h.2 hp) ?_ ?_
    · rintro i x H hi ⟨ea, sa⟩
      obtain ⟨u, hu1, rfl⟩ := iv_get hi
      have hil := (List.getElem?_eq_some_iff.mp hu1).1
      have hu2 := hlt u (List.mem_of_getElem? hu1)
      have at1 : (iv bs)[u]? = some (.int ((bs.getD u 0 : Nat) : Int)) := by
        unfold iv
        rw [List.getElem?_map, List.getElem?_eq_getElem hu2, List.getD_eq_getElem?_getD, List.getElem?_eq_getElem hu2]
        rfl
      have fin : ∃ acc, H D = some (.lst acc) ∧ acc.length < sizeLine ∧ (upd H D (.lst (acc ++ [V.int ((bs.getD u 0 : Nat) : Int)])) D = some (.lst (iv (((bts m).take (i + 1)).map fun u => bs.getD u 0))) ∧ Same G (upd H D (.lst (acc ++ [V.int ((bs.getD u 0 : Nat) : Int)])))) := by
        refine ⟨iv (((bts m).take i).map fun u => bs.getD u 0), ea, ?_, ?_, same_mut sa hD⟩
        · rw [iv_len, List.length_map, List.length_take]
          have := bts_len m
          exact small1000 (by omega)
        · rw [upd_same, List.take_succ_eq_append_getElem hil, (List.getElem?_eq_some_iff.mp hu1).2]
          simp [iv]
      refine ⟨rfl, _, rfl, _, rfl, ?_⟩
      rcases hb with hb | hb
      · exact .inl ⟨b, _, _, _, rfl, rfl, sa.seq hb, atI_nat at1, fin⟩
      · exact .inr (.inl ⟨b, _, _, _, rfl, rfl, sqT_same sa hb, atI_nat at1, fin⟩)
    · rintro H ⟨ea, sa⟩
      rw [iv_len, List.take_length, iv_ints] at ea
      refine ⟨D, _, rfl, .inl (.inl ea), .inl ⟨_, rfl, _, _, rfl, rfl, (by show (0 : Int) < 2; decide), ?_⟩⟩
      rw [sum_nat]
      exact k H sa
end
end Es
set_option Elab.async false
set_option linter.all false
set_option maxRecDepth 100000
set_option maxHeartbeats 4000000
namespace Es
open PySem PySem.Spec PyProof.Rows L2
section
variable {P : Program} {w : World} {K : PySem.W.Frag} {mg : Str → Option Value} {base : Heap}
theorem ok_law_planted_book {f : Addr} {fd : FuncData} (F : Fun K "_law_planted_book" "_law_planted_book" s_law_planted_book f fd) (T : Txt mg) (c_law_take : CalleeOf P w K mg base 1 "_law_take" ["bag", "many"] (sp_law_take K)) (c_law_any_row : CalleeOf P w K mg base 3 "_law_any_row" ["bag", "many"] (sp_law_any_row K)) (c_law_any_clause : CalleeOf P w K mg base 4 "_law_any_clause" ["bag", "many", "most"] (sp_law_any_clause K)) (c_law_some : CalleeOf P w K mg base 2 "_law_some" ["bag", "things"] (sp_law_some K)) (c_law_worth : CalleeOf P w K mg base 1 "_law_worth" ["row", "bits"] (sp_law_worthS K)) : FnG P w K mg base 5 f fd ["bag", "many", "most"] (sp_law_planted_bookZ K) := by
  refine okG F sc_law_planted_book (fun h => ?_) (fun cdv B out t0 G ys R E hr hg h => ?_)
  · obtain ⟨b, c, n, k, rfl, _⟩ := h
    rfl
  · obtain ⟨b, c, n, k, rfl, hB, n62, k60, kk⟩ := h
    refine ⟨_, (pss_cons
        (ps_par (i := 3) (j := 4) rfl sc_law_planted_book.nd rfl rfl (by decide) rfl rfl (pa_cons (pe_callTy call_tuple_of (by rfl) T.z_tuple (by decide +kernel) (pa_cons (pe_lc (own := [("unknown", 5)]) rfl sc_law_planted_book.nd (pi_range1 (by rfl) T.z_range (pa_cons (pv 1) pa_nil)) (blkOk_by (own := [("unknown", 5)]) (N := ["bag", "many", "most", "bits", "found", "unknown", "turn", "row", "clause"]) (sc := defScope s_law_planted_book) (by decide +kernel)) (fun _ _ _ _ _ => (pg_name (i := 5) sc_law_planted_book.nd rfl (.inl rfl))) (fun _ _ _ _ _ => pts_nil) (fun _ _ _ _ _ => (pe_callC c_law_take (hr.mono (by decide)) hg (by rfl) (pa_cons (pv 0) (pa_cons pe_int pa_nil))))) pa_nil)) (pa_cons (pe_lst pa_nil) pa_nil)) (by rfl))
        (pss_cons
        (ps_for PassesOwn.never rfl (pi_range1 (by rfl) T.z_range (pa_cons (pe_via (pe_ifExp (pt_cmpR op_gt (pv 1) pe_int (nomark _)) (pe_callC c_law_take (hr.mono (by decide)) hg (by rfl) (pa_cons (pv 0) (pa_cons (pe_op op_add (pv 2) pe_int) pa_nil))) pe_int)) pa_nil)) (pg_name (i := 6) sc_law_planted_book.nd rfl (.inl rfl))
        (pss_cons
          (ps_set (i := 7) sc_law_planted_book.nd rfl (Or.inl rfl) (pe_callC c_law_any_row (hr.mono (by decide)) hg (by rfl) (pa_cons (pv 0) (pa_cons (pv 1) pa_nil))))
          (pss_cons
          (ps_set (i := 8) sc_law_planted_book.nd rfl (Or.inl rfl) (pe_op op_catA (pe_callC c_law_any_clause (hr.mono (by decide)) hg (by rfl) (pa_cons (pv 0) (pa_cons (pv 1) (pa_cons (pe_callC c_law_some (hr.mono (by decide)) hg (by rfl) (pa_cons (pv 0) (pa_cons (pe_lst (pa_cons pe_int (pa_cons pe_int (pa_cons pe_int (pa_cons pe_int pa_nil))))) pa_nil))) pa_nil)))) (pe_tup (pa_cons (pe_tup (pa_cons (pv 7) (pa_cons (pe_callC c_law_worth (hr.mono (by decide)) hg (by rfl) (pa_cons (pv 7) (pa_cons (pv 3) pa_nil))) pa_nil))) pa_nil))))
          (pss_one
          (ps_expr (pe_bm PySem.F.plainAttrs_list PySem.F.slot_list_append PySem.F.type_list_append mt_append (pv 4) (pa_cons (pe_callTy call_tuple_of (by rfl) T.z_tuple (by decide +kernel) (pa_cons (pe_callB (cr_sortedKeys rfl hr.units) (by rfl) T.z_sorted (by decide +kernel) (pa_cons (pe_callTy (cr_keySet rfl hr.units) (by rfl) T.z_set (by decide +kernel) (pa_cons (pv 8) pa_nil)) pa_nil)) pa_nil)) pa_nil)))))))
        (pss_one
        (ps_ret (pe_tup (pa_cons (pe_tup (pa_cons (pv 1) (pa_cons (pe_callTy call_tuple_of (by rfl) T.z_tuple (by decide +kernel) (pa_cons (pv 4) pa_nil)) pa_nil))) (pa_cons (pv 3) pa_nil))))))), ?_⟩
    refine ⟨_, rfl, (n : Int), rfl, by omega, by omega, fun D hD => ?_⟩
    obtain ⟨yg, eg⟩ := hB.lst
    have nDb : D ≠ b := (ne_of_none eg hD).symm
    refine lc_range (lo := 0) (n := n) (fun i H => ∃ acc : List Nat, H D = some (.lst (iv acc)) ∧ But b G H ∧ BagAt K H b c ∧ acc.length = i ∧ ∀ x ∈ acc, x < 2)
      ⟨[], upd_same, But.new hD, hB.same (same_new hD), rfl, (fun x hx => by cases hx)⟩ ?_ ?_
    · rintro i H hi ⟨acc, eD, s1, B1, la, a2⟩
      refine ⟨rfl, _, rfl, b, c, 2, rfl, B1, by decide, by decide, fun H2 r s2 B2 hr2 => ?_⟩
      refine ⟨iv acc, s2 D _ nDb eD, ?_, acc ++ [r], ?_, but_mut (s1.trans s2) hD, BagAt.mut hB hD B2, by simp [la], ?_⟩
      · rw [iv_len, la]
        exact small1000 (by omega)
      · rw [upd_same]
        simp [iv]
      · intro x hx
        rcases List.mem_append.mp hx with hx | hx
        · exact a2 x hx
        · have hx : x = r := by simpa using hx
          rw [hx]; exact hr2
    rintro H1 ⟨bs, eD, s1, B1, lbs, bs2⟩
    refine ⟨D, iv bs, rfl, .inl ⟨.inl (.inl eD), fun tb ntb => ⟨Nat.zero_le _, fun ll nll => ⟨_, _, rfl, ?_⟩⟩⟩⟩
    have st := same_new (o := .tup (iv bs)) ntb
    have sl := same_new (o := .lst []) nll
    have s2 := s1.trans (But.same (st.trans sl))
    have B2 := B1.same (st.trans sl)
    have etb := sl _ _ (upd_same (H := H1) (a := tb) (o := .tup (iv bs)))
    have ell := upd_same (H := upd H1 tb (.tup (iv bs))) (a := ll) (o := .lst [])
    have ngl : G ll = none := by
      have : H1 ll = none := st.free nll
      obtain ⟨y1, e1⟩ := B1.lst
      exact s1.free (fun z => by rw [z] at this; rw [this] at e1; cases e1) this
    have nlb : ll ≠ b := fun z => by rw [z] at ngl; rw [ngl] at eg; cases eg
    have ntb' : tb ≠ b := fun z => by
      obtain ⟨y1, e1⟩ := B1.lst
      rw [z] at ntb
      rw [ntb] at e1
      cases e1
    generalize upd (upd H1 tb (.tup (iv bs))) ll (.lst []) = H2 at s2 B2 etb ell ⊢
    refine ⟨fun v H => ∃ q : Nat, v = .int (q : Int) ∧ q ≤ k ∧ (0 < q → 0 < n) ∧ But b G H ∧ BagAt K H b c ∧ H tb = some (.tup (iv bs)) ∧ H ll = some (.lst []), ?_, ?_⟩
    · refine ⟨_, rfl, _, _, rfl, rfl, _, rfl, ite2 (fun hc => ?_) (fun _ => ⟨0, rfl, Nat.zero_le _, (fun h => absurd h (by decide)), s2, B2, etb, ell⟩)⟩
      have n0 := of_decide_eq_true hc
      refine ⟨_, rfl, _, rfl, _, _, rfl, rfl, b, c, k + 1, rfl, B2, by omega, by omega, fun H3 r s3 B3 hr => ?_⟩
      exact ⟨r, rfl, by omega, (fun _ => by omega), s2.trans s3, B3, s3 _ _ ntb' etb, s3 _ _ nlb ell⟩
    rintro v H4 ⟨q, rfl, hq, hqn, s4, B4, etb4, el4⟩
    refine ⟨(q : Int), rfl, by omega, by omega, for_range (lo := 0) (n := q) (fun i σ H => ∃ us cs y6 y7 y8, σ = [some (.ref b), some (.int (n : Int)), some (.int (k : Int)), some (.ref tb), some (.ref ll), none, y6, y7, y8] ∧ But b G H ∧ BagAt K H b c ∧ H tb = some (.tup (iv bs)) ∧ H ll = some (.lst us) ∧
        Paired (LinesV K H) us cs ∧ (∀ ls ∈ cs, ClOkZ n ls) ∧ us.length ≤ i)
      ⟨[], [], _, _, _, rfl, s4, B4, etb4, el4, .nil, (fun l hl => by cases hl), Nat.le_refl _⟩ ?_ ?_⟩
    · rintro i σ H hi ⟨us, cs, y6, y7, y8, rfl, s5, B5, etb5, el5, P5, hl5, lu⟩
      have n0 := hqn (by omega)
      obtain ⟨y5, e5⟩ := B5.lst
      refine ⟨_, rfl, _, rfl, b, c, n, rfl, B5, n0, n62, fun H6 v6 m s6 B6 hv6 hm nz => ?_⟩
      obtain ⟨y6', e6⟩ := B6.lst
      have etb6 := s6 _ _ ntb' etb5
      have el6 := s6 _ _ nlb el5
      have P6 := Paired.mono2 (fun _ _ h => LinesV.but e5 s6 h) P5
      refine ⟨_, rfl, _, rfl, _, rfl, (by show 4 ≤ sizeLine; decide), fun l nl => ?_⟩
      have sl := same_new (o := .lst [V.int 0, V.int 1, V.int 2, V.int 3]) nl
      obtain ⟨y7', e7⟩ := (B6.same sl).lst
      refine ⟨b, c, l, _, rfl, B6.same sl, (ne_of_none e6 nl).symm, .inl (.inl (.inl upd_same)), by decide, by decide, fun H7 r v s7 B7 hv => ?_⟩
      obtain ⟨j, rfl, j4⟩ : ∃ j : Nat, v = .int (j : Int) ∧ j ≤ 3 := by
        rcases r with _ | _ | _ | _ | r
        · exact ⟨0, (Option.some.inj hv).symm, by decide⟩
        · exact ⟨1, (Option.some.inj hv).symm, by decide⟩
        · exact ⟨2, (Option.some.inj hv).symm, by decide⟩
        · exact ⟨3, (Option.some.inj hv).symm, by decide⟩
        · cases hv
      obtain ⟨y8', e8⟩ := B7.lst
      refine ⟨b, c, n, j, rfl, B7, n0, n62, by omega, fun H8 v8 ls s8 B8 hv8 hl8 ll8 => ?_⟩
      have m8 : ∀ {x : V} {y : List (Nat × Nat)}, LinesV K H6 x y → LinesV K H8 x y := fun h => LinesV.but e8 s8 (LinesV.but e7 s7 (h.same sl))
      have etb8 := s8 _ _ ntb' (s7 _ _ ntb' (sl _ _ etb6))
      have el8 := s8 _ _ nlb (s7 _ _ nlb (sl _ _ el6))
      have hv68 := (((hv6.same sl).but e7 s7).but e8 s8)
      have P8 : Paired (LinesV K H8) us cs := Paired.mono2 (fun _ _ h => m8 h) P6
      refine ⟨_, rfl, _, rfl, _, rfl, v6, tb, m, bs, rfl, hv68, .inr (.inl (.inl etb8)), (fun u hu => by rw [lbs]; exact bits_below hm hu), fun H9 s9 => ⟨(by show 2 ≤ sizeLine; decide), fun t nt => ⟨(by show 1 ≤ sizeLine; decide), fun t2 nt2 => ?_⟩⟩⟩
      have st1 := same_new (o := .tup [v6, V.int ((wsum m bs % 2 : Nat) : Int)]) nt
      have st2 := same_new (o := .tup [V.ref t]) nt2
      have s12 := s9.trans (st1.trans st2)
      obtain ⟨tv8, us8, rfl, ht8, hP8⟩ := hv8
      have l8 := Paired.len hP8
      refine cat_seq (sqT_same s12 ht8) (.inl (.inl upd_same)) (Nat.le_of_lt (small1000 (by show us8.length + 1 ≤ 1000; omega))) fun H10 p s10 hp => ?_
      have s13 := s12.trans s10
      have hPn : Paired (LineV K H10) (us8 ++ [V.ref t]) (ls ++ [(m, wsum m bs % 2)]) :=
        PySem.Paired.snoc (lines_same s13 hP8) ⟨t, v6, rfl, .inl (.inl ((st2.trans s10) _ _ upd_same)), hv68.same s13⟩
      have hln : ∀ l ∈ ls ++ [(m, wsum m bs % 2)], l.1 < 2 ^ n ∧ l.1 ≠ 0 ∧ l.2 < 2 := fun l h => by
        rcases List.mem_append.mp h with h | h
        · exact hl8 l h
        · have h : l = (m, wsum m bs % 2) := by simpa using h
          rw [h]
          exact ⟨hm, nz, Nat.mod_lt _ (by decide)⟩
      have lsn : (ls ++ [(m, wsum m bs % 2)]).length ≤ 4 := by
        rw [List.length_append]
        show ls.length + 1 ≤ 4
        omega
      generalize us8 ++ [V.ref t] = usn at hp hPn
      generalize ls ++ [(m, wsum m bs % 2)] = lsN at hPn hln lsn
      obtain ⟨ks, rfl, rfl, hlv⟩ := lines_refs hPn
      rw [List.length_map] at lsn
      have el10 := s13 _ _ el8
      refine ⟨_, rfl, .inl ⟨rfl, us, .inl (.inl el10)⟩, _, rfl, p, ks.map keyed, rfl, by rw [List.map_map]; exact hp, fun e he => ?_, by rw [List.length_map]; omega, fun S L nS h1 h2 nd => ?_⟩
      · obtain ⟨d, hd, rfl⟩ := List.mem_map.mp he
        exact keyed_ok (hlv d hd)
      obtain ⟨ds, rfl, hd⟩ := keyed_back L h1
      have s14 := same_new (o := KeySetO P w S (ds.map keyed)) nS
      obtain ⟨f1, f2, f3⟩ := keyed_facts (ds := ds)
      refine ⟨S, _, rfl, upd_same, fun e he => ?_, f1, f2, f3, fun L' q2 pm nq => ?_⟩
      · obtain ⟨d, hd2, rfl⟩ := List.mem_map.mp he
        exact keyed_ok ((hlv d (hd d hd2)).same s14)
      obtain ⟨es, ee, he, le⟩ := byData_back h1 nd pm
      rw [ee, List.map_map]
      have s15 := s14.trans (same_new (o := .lst (es.map ((fun e => V.ref e.1) ∘ keyed))) nq)
      refine ⟨q2, _, rfl, .inl ⟨.inl (.inl upd_same), fun p2 np2 => ?_⟩⟩
      have s16 := s15.trans (same_new (o := .tup (es.map ((fun e => V.ref e.1) ∘ keyed))) np2)
      have el16 := s16 _ _ el10
      have nlt : tb ≠ ll := fun z => by
        rw [z, el5] at etb5
        cases etb5
      have sAll := s13.trans s16
      have own : LinesV K _ (.ref p2) (es.map fun d : Addr × (Nat × Nat) => d.2) := ⟨p2, _, rfl, .inl (.inl upd_same), refs_lines fun d h => (hlv d (he d h)).same s16⟩
      refine ⟨ll, us, .ref p2, rfl, rfl, el16, small1000 (by omega), us ++ [V.ref p2], cs ++ [es.map fun d : Addr × (Nat × Nat) => d.2], _, _, _, rfl, but_mut (((((s5.trans s6).trans (But.same sl)).trans s7).trans s8).trans (But.same sAll)) ngl, BagAt.mut hB ngl (B8.same sAll), ?_, upd_same, ?_, ?_, by simp; omega⟩
      · rw [upd_ne nlt]
        exact sAll _ _ etb8
      · exact PySem.Paired.snoc (Paired.mono2 (fun _ _ h => LinesV.but el16 But.at_ (LinesV.same sAll h)) P8) (LinesV.but el16 But.at_ own)
      · intro x h
        rcases List.mem_append.mp h with h | h
        · exact hl5 x h
        · have h : x = es.map fun d : Addr × (Nat × Nat) => d.2 := by simpa using h
          rw [h]
          refine ⟨fun l hl => ?_, by rw [List.length_map]; omega⟩
          obtain ⟨d, hm2, rfl⟩ := List.mem_map.mp hl
          exact hln d.2 (List.mem_map.mpr ⟨d, he d hm2, rfl⟩)
    · rintro σ H ⟨us, cs, y6, y7, y8, rfl, s5, B5, etb5, el5, P5, hl5, lu⟩
      have lc := Paired.len P5
      refine ⟨_, rfl, _, rfl, ll, us, rfl, .inl ⟨.inl (.inl el5), fun p np => ⟨(by show 2 ≤ sizeLine; decide), fun t nt => ⟨_, rfl, (by show 2 ≤ sizeLine; decide), fun t2 nt2 => ?_⟩⟩⟩⟩
      have s6 := same_new (o := .tup us) np
      have s7 := same_new (o := .tup [V.int (n : Int), V.ref p]) nt
      have s8 := same_new (o := .tup [V.ref t, V.ref tb]) nt2
      have s9 := s6.trans (s7.trans s8)
      exact kk _ t2 (.ref t) (.ref tb) cs (s5.trans (But.same s9)) (B5.same s9) upd_same ⟨t, p, us, rfl, .inl (.inl (s8 _ _ upd_same)), .inl (.inl ((s7.trans s8) _ _ upd_same)), Paired.mono2 (fun _ _ h => LinesV.same s9 h) P5⟩ hl5 (by omega)
end
end Es
set_option Elab.async false
set_option linter.all false
set_option maxRecDepth 100000
set_option maxHeartbeats 4000000
namespace Es
open PySem PySem.Spec PyProof.Rows L2
section
variable {P : Program} {w : World} {K : PySem.W.Frag} {mg : Str → Option Value} {base : Heap}
theorem ok_law_mask {f : Addr} {fd : FuncData} (F : Fun K "_law_mask" "_law_mask" s_law_mask f fd) (T : Txt mg)  : FnG P w K mg base 1 f fd ["row"] (sp_law_mask K) := by
  refine okG F sc_law_mask (fun h => ?_) (fun cdv B out t0 G ys R E hr hg h => ?_)
  · obtain ⟨v, m, rfl, _⟩ := h
    rfl
  · obtain ⟨v, m, rfl, ⟨p, rfl, hp⟩, hm, k⟩ := h
    refine ⟨_, (pss_cons
        (ps_set (i := 1) sc_law_mask.nd rfl (Or.inl rfl) pe_int)
        (pss_cons
        (ps_for PassesOwn.never rfl (pi_tup (pv 0)) (pg_name (i := 2) sc_law_mask.nd rfl (.inl rfl))
        (pss_one
          (ps_set (i := 1) sc_law_mask.nd rfl (Or.inl rfl) (pe_op op_or (pv 1) (pe_op op_shl pe_int (pv 2))))))
        (pss_one
        (ps_ret (pv 1))))), ?_⟩
    refine ⟨_, rfl, p, rfl, ⟨_, hp⟩, for_tup (K := K) (a := p) (xs := iv (bts m)) (fun i σ H => ∃ y2, σ = [some (.ref p), some (.int ((msk ((bts m).take i) : Nat) : Int)), y2] ∧ H = G)
      ⟨none, rfl, rfl⟩ (fun i σ H _ ⟨_, _, e⟩ => e ▸ hp) ?_ ?_⟩
    · rintro i x σ H hi ⟨y2, rfl, rfl⟩
      obtain ⟨u, hu1, rfl⟩ := iv_get hi
      have hum := mem_bts.mp (List.mem_of_getElem? hu1)
      refine ⟨_, rfl, _, rfl, _, _, rfl, rfl, ⟨by omega, by omega, by decide⟩, _, _, rfl, rfl, ?_⟩
      refine ⟨some (.int (u : Int)), ?_, rfl⟩
      show [some (V.ref p), some (V.int (Builtin.bitOr _ (1 * 2 ^ ((u : Int).toNat)))), some (V.int (u : Int))] = _
      rw [shl_one, or_nat, msk_take hu1]
      have dis : (msk ((bts m).take i)) ||| 2 ^ u = (msk ((bts m).take i)) ^^^ 2 ^ u := by
        refine Nat.eq_of_testBit_eq fun j => ?_
        rw [Nat.testBit_or, Nat.testBit_xor]
        by_cases e : j = u
        · subst e
          have nm : j ∉ (bts m).take i := by
            intro z
            obtain ⟨i2, h2, e2⟩ := List.mem_iff_getElem.mp z
            rw [List.getElem_take] at e2
            have h3 : i2 < i := by
              rw [List.length_take] at h2
              omega
            obtain ⟨h4, e4⟩ := List.getElem?_eq_some_iff.mp hu1
            have h5 : i2 < (bts m).length := by omega
            have := (List.getElem_inj (bts_nodup m)).mp (show (bts m)[i2]'h5 = (bts m)[i]'h4 from e2.trans e4.symm)
            omega
          rw [msk_bit ((bts_nodup m).sublist (List.take_sublist _ _)), decide_eq_false nm, Nat.testBit_two_pow_self]
          rfl
        · rw [Nat.testBit_two_pow_of_ne (Ne.symm e), Bool.or_false]
          cases (msk ((bts m).take i)).testBit j <;> rfl
      rw [dis]
    · rintro σ H ⟨y2, rfl, rfl⟩
      rw [iv_len, List.take_length, msk_bts hm]
      exact ⟨_, rfl, k⟩
end
end Es
set_option Elab.async false
set_option linter.all false
set_option maxRecDepth 100000
set_option maxHeartbeats 4000000
namespace Es
open PySem PySem.Spec PyProof.Rows L2
section
variable {P : Program} {w : World} {K : PySem.W.Frag} {mg : Str → Option Value} {base : Heap}
theorem ok_law_mixed {f : Addr} {fd : FuncData} (F : Fun K "_law_mixed" "_law_mixed" s_law_mixed f fd) (T : Txt mg) (c_law_take : CalleeOf P w K mg base 1 "_law_take" ["bag", "many"] (sp_law_take K)) : FnG P w K mg base 2 f fd ["bag", "things"] (sp_law_mixed K) := by
  refine okG F sc_law_mixed (fun h => ?_) (fun cdv B out t0 G ys R E hr hg h => ?_)
  · obtain ⟨b, c, a, xs, rfl, _⟩ := h
    rfl
  · obtain ⟨b, c, a, xs, rfl, hB, ne, hS, hl, kk⟩ := h
    refine ⟨_, (pss_cons
        (ps_set (i := 2) sc_law_mixed.nd rfl (Or.inl rfl) (pe_lst pa_nil))
        (pss_cons
        (ps_for PassesOwn.never rfl (pi_or (pi_list (pv 1)) (pi_tup (pv 1))) (pg_name (i := 3) sc_law_mixed.nd rfl (.inl rfl))
        (pss_one
          (ps_expr (pe_bm PySem.F.plainAttrs_list PySem.F.slot_list_insert PySem.F.type_list_insert mt_insert (pv 2) (pa_cons (pe_callC c_law_take (hr.mono (by decide)) hg (by rfl) (pa_cons (pv 0) (pa_cons (pe_op op_add (pe_callB call_len_seq (by rfl) T.z_len (by decide +kernel) (pa_cons (pv 2) pa_nil)) pe_int) pa_nil))) (pa_cons (pv 3) pa_nil))))))
        (pss_one
        (ps_ret (pv 2))))), ?_⟩
    refine ⟨Nat.zero_le _, fun D nD => ?_⟩
    obtain ⟨yg, eg⟩ := hB.lst
    have nDb : D ≠ b := (ne_of_none eg nD).symm
    have sD := same_new (o := .lst []) nD
    let Pv : Nat → L2.St → Hp → Prop := fun i σ H => ∃ y3 ys, σ = [some (.ref b), some (.ref a), some (.ref D), y3] ∧ But b G H ∧ BagAt K H b c ∧ H D = some (.lst ys) ∧ ys.Perm (xs.take i)
    have st0 : Pv 0 [some (.ref b), some (.ref a), some (.ref D), none] (upd G D (.lst [])) := ⟨_, [], rfl, But.same sD, hB.same sD, upd_same, by rw [List.take_zero]⟩
    rcases hS with hS | hS
    · refine .inl ⟨_, rfl, a, rfl, ⟨xs, hS.imp (fun z => z.imp (fun z => (sD _ _ z)) (fun ⟨o, z⟩ => ⟨o, sD _ _ z⟩)) id⟩, for_list (K := K) (a := a) (xs := xs) Pv st0 (fun i σ H _ ⟨_, _, _, s, _⟩ => hS.imp (fun z => z.imp (fun z => s _ _ ne z) (fun ⟨o, z⟩ => ⟨o, s _ _ ne z⟩)) id) ?_ ?_⟩
      · rintro i x σ H hi ⟨y3, ys, rfl, s1, B1, eD, pm⟩
        have hil := (List.getElem?_eq_some_iff.mp hi).1
        have ly : ys.length = i := by
          rw [pm.length_eq, List.length_take]
          omega
        refine ⟨_, rfl, .inl ⟨rfl, _, .inl (.inl eD)⟩, _, rfl, _, rfl, D, ys, rfl, .inl (.inl (.inl eD)), _, _, rfl, rfl, b, c, ys.length + 1, rfl, B1, Nat.succ_pos _, by omega, fun H2 r s2 B2 hr => ?_⟩
        have eD2 := s2 _ _ nDb eD
        refine ⟨_, rfl, D, ys, (r : Int), x, rfl, rfl, eD2, small1000 (by omega), by omega, by omega, ?_⟩
        refine ⟨_, _, rfl, but_mut (s1.trans s2) nD, BagAt.mut hB nD B2, upd_same, ?_⟩
        rw [List.take_succ_eq_append_getElem hil, (List.getElem?_eq_some_iff.mp hi).2, List.append_assoc, Int.toNat_natCast]
        refine List.perm_middle.trans ?_
        show (x :: (ys.take r ++ ys.drop r)).Perm _
        rw [List.take_append_drop]
        exact (pm.cons x).trans (List.perm_append_singleton x _).symm
      · rintro σ H ⟨y3, ys, rfl, s1, B1, eD, pm⟩
        rw [List.take_length] at pm
        exact ⟨_, rfl, kk _ D ys s1 B1 nD nDb eD pm⟩
    · refine .inr ⟨_, rfl, a, rfl, ⟨xs, sqT_same sD hS⟩, for_tup (K := K) (a := a) (xs := xs) Pv st0 (fun i σ H _ ⟨_, _, _, s, _⟩ => hS.imp (fun z => z.imp (fun z => s _ _ ne z) (fun ⟨o, z⟩ => ⟨o, s _ _ ne z⟩)) id) ?_ ?_⟩
      · rintro i x σ H hi ⟨y3, ys, rfl, s1, B1, eD, pm⟩
        have hil := (List.getElem?_eq_some_iff.mp hi).1
        have ly : ys.length = i := by
          rw [pm.length_eq, List.length_take]
          omega
        refine ⟨_, rfl, .inl ⟨rfl, _, .inl (.inl eD)⟩, _, rfl, _, rfl, D, ys, rfl, .inl (.inl (.inl eD)), _, _, rfl, rfl, b, c, ys.length + 1, rfl, B1, Nat.succ_pos _, by omega, fun H2 r s2 B2 hr => ?_⟩
        have eD2 := s2 _ _ nDb eD
        refine ⟨_, rfl, D, ys, (r : Int), x, rfl, rfl, eD2, small1000 (by omega), by omega, by omega, ?_⟩
        refine ⟨_, _, rfl, but_mut (s1.trans s2) nD, BagAt.mut hB nD B2, upd_same, ?_⟩
        rw [List.take_succ_eq_append_getElem hil, (List.getElem?_eq_some_iff.mp hi).2, List.append_assoc, Int.toNat_natCast]
        refine List.perm_middle.trans ?_
        show (x :: (ys.take r ++ ys.drop r)).Perm _
        rw [List.take_append_drop]
        exact (pm.cons x).trans (List.perm_append_singleton x _).symm
      · rintro σ H ⟨y3, ys, rfl, s1, B1, eD, pm⟩
        rw [List.take_length] at pm
        exact ⟨_, rfl, kk _ D ys s1 B1 nD nDb eD pm⟩
end
end Es
set_option Elab.async false
set_option linter.all false
set_option maxRecDepth 100000
set_option maxHeartbeats 4000000
namespace Es
open PySem PySem.Spec PyProof.Rows L2
section
variable {P : Program} {w : World} {K : PySem.W.Frag} {mg : Str → Option Value} {base : Heap}
theorem ok_law_chain_book {f : Addr} {fd : FuncData} (F : Fun K "_law_chain_book" "_law_chain_book" s_law_chain_book f fd) (T : Txt mg) (c_law_take : CalleeOf P w K mg base 1 "_law_take" ["bag", "many"] (sp_law_take K)) (c_law_any_row : CalleeOf P w K mg base 3 "_law_any_row" ["bag", "many"] (sp_law_any_row K)) (c_law_mask : CalleeOf P w K mg base 1 "_law_mask" ["row"] (sp_law_mask K)) (c_law_worth : CalleeOf P w K mg base 1 "_law_worth" ["row", "bits"] (sp_law_worthL K)) (c_law_row : CalleeOf P w K mg base 1 "_law_row" ["mask"] (sp_law_row K)) (c_law_any_clause : CalleeOf P w K mg base 4 "_law_any_clause" ["bag", "many", "most"] (sp_law_any_clause K)) (c_law_mixed : CalleeOf P w K mg base 2 "_law_mixed" ["bag", "things"] (sp_law_mixed K)) : FnG P w K mg base 5 f fd ["bag", "many"] (sp_law_chain_bookZ K) := by
  refine okG F sc_law_chain_book (fun h => ?_) (fun cdv B out t0 G ys R E hr hg h => ?_)
  · obtain ⟨b, c, n, rfl, _⟩ := h
    rfl
  · obtain ⟨b, c, n, rfl, hB, n0, n50, kk⟩ := h
    refine ⟨_, (pss_cons
        (ps_asg (pe_tup (pa_cons (pe_lc (own := [("unknown", 5)]) rfl sc_law_chain_book.nd (pi_range1 (by rfl) T.z_range (pa_cons (pv 1) pa_nil)) (blkOk_by (own := [("unknown", 5)]) (N := ["bag", "many", "bits", "rows", "last", "unknown", "turn", "lines", "row", "found", "line"]) (sc := defScope s_law_chain_book) (by decide +kernel)) (fun _ _ _ _ _ => (pg_name (i := 5) sc_law_chain_book.nd rfl (.inl rfl))) (fun _ _ _ _ _ => pts_nil) (fun _ _ _ _ _ => (pe_callC c_law_take (hr.mono (by decide)) hg (by rfl) (pa_cons (pv 0) (pa_cons pe_int pa_nil))))) (pa_cons (pe_lst pa_nil) (pa_cons pe_int pa_nil)))) (pg_tup (by rfl) (pgs_cons (pg_name (i := 2) sc_law_chain_book.nd rfl (.inr rfl)) (pgs_cons (pg_name (i := 3) sc_law_chain_book.nd rfl (.inl rfl)) (pgs_cons (pg_name (i := 4) sc_law_chain_book.nd rfl (.inl rfl)) pgs_nil)))))
        (pss_cons
        (ps_for PassesOwn.never rfl (pi_range1 (by rfl) T.z_range (pa_cons (pe_op op_add pe_int (pe_callC c_law_take (hr.mono (by decide)) hg (by rfl) (pa_cons (pv 0) (pa_cons (pv 1) pa_nil)))) pa_nil)) (pg_name (i := 6) sc_law_chain_book.nd rfl (.inl rfl))
        (pss_cons
          (ps_expr (pe_bm PySem.F.plainAttrs_list PySem.F.slot_list_append PySem.F.type_list_append mt_append (pv 3) (pa_cons (pe_callC c_law_any_row (hr.mono (by decide)) hg (by rfl) (pa_cons (pv 0) (pa_cons (pv 1) pa_nil))) pa_nil)))
          (pss_one
          (ps_set (i := 4) sc_law_chain_book.nd rfl (Or.inl rfl) (pe_op op_xor (pv 4) (pe_callC c_law_mask (hr.mono (by decide)) hg (by rfl) (pa_cons (pe_ix ix_list (pv 3) (pe_un un_neg pe_int) (fun _ _ => rfl)) pa_nil)))))))
        (pss_cons
        (ps_setLc (i := 7) (own := [("row", 8)]) rfl sc_law_chain_book.nd rfl rfl (sw_true rfl rfl rfl (by decide +kernel)) (pi_list (pv 3)) (blkOk_by (own := [("row", 8)]) (N := ["bag", "many", "bits", "rows", "last", "unknown", "turn", "lines", "row", "found", "line"]) (sc := defScope s_law_chain_book) (by decide +kernel)) (fun _ _ _ _ _ => (pg_name (i := 8) sc_law_chain_book.nd rfl (.inl rfl))) (fun _ _ _ _ _ => pts_nil) (fun _ _ _ _ _ => (pe_tup (pa_cons (pv 8) (pa_cons (pe_callC c_law_worth (hr.mono (by decide)) hg (by rfl) (pa_cons (pv 8) (pa_cons (pv 2) pa_nil))) pa_nil)))))
        (pss_cons
        (ps_expr (pe_bm PySem.F.plainAttrs_list PySem.F.slot_list_append PySem.F.type_list_append mt_append (pv 7) (pa_cons (pe_via (pe_ifExp (pt_cmpR op_gt (pv 4) pe_int (nomark _)) (pe_tup (pa_cons (pe_callC c_law_row (hr.mono (by decide)) hg (by rfl) (pa_cons (pv 4) pa_nil)) (pa_cons (pe_op op_sub pe_int (pe_callC c_law_worth (hr.mono (by decide)) hg (by rfl) (pa_cons (pe_callC c_law_row (hr.mono (by decide)) hg (by rfl) (pa_cons (pv 4) pa_nil)) (pa_cons (pv 2) pa_nil)))) pa_nil))) (pe_tup (pa_cons (pe_ix ix_list (pv 3) pe_int (fun _ _ => rfl)) (pa_cons (pe_op op_sub pe_int (pe_ix ix_tup (pe_ix ix_list (pv 7) pe_int (fun _ _ => rfl)) pe_int (fun _ _ => rfl))) pa_nil))))) pa_nil)))
        (pss_cons
        (ps_set (i := 9) sc_law_chain_book.nd rfl (Or.inl rfl) (pe_op op_cat (pe_lc (own := [("line", 10)]) rfl sc_law_chain_book.nd (pi_list (pv 7)) (blkOk_by (own := [("line", 10)]) (N := ["bag", "many", "bits", "rows", "last", "unknown", "turn", "lines", "row", "found", "line"]) (sc := defScope s_law_chain_book) (by decide +kernel)) (fun _ _ _ _ _ => (pg_name (i := 10) sc_law_chain_book.nd rfl (.inl rfl))) (fun _ _ _ _ _ => pts_nil) (fun _ _ _ _ _ => (pe_tup (pa_cons (pv 10) pa_nil)))) (pe_lc (own := [("turn", 6)]) rfl sc_law_chain_book.nd (pi_range1 (by rfl) T.z_range (pa_cons (pe_callC c_law_take (hr.mono (by decide)) hg (by rfl) (pa_cons (pv 0) (pa_cons pe_int pa_nil))) pa_nil)) (blkOk_by (own := [("turn", 6)]) (N := ["bag", "many", "bits", "rows", "last", "unknown", "turn", "lines", "row", "found", "line"]) (sc := defScope s_law_chain_book) (by decide +kernel)) (fun _ _ _ _ _ => (pg_name (i := 6) sc_law_chain_book.nd rfl (.inl rfl))) (fun _ _ _ _ _ => pts_nil) (fun _ _ _ _ _ => (pe_callC c_law_any_clause (hr.mono (by decide)) hg (by rfl) (pa_cons (pv 0) (pa_cons (pv 1) (pa_cons pe_int pa_nil))))))))
        (pss_one
        (ps_ret (pe_tup (pa_cons (pv 1) (pa_cons (pe_callTy call_tuple_of (by rfl) T.z_tuple (by decide +kernel) (pa_cons (pe_callC c_law_mixed (hr.mono (by decide)) hg (by rfl) (pa_cons (pv 0) (pa_cons (pv 9) pa_nil))) pa_nil)) pa_nil)))))))))), ?_⟩
    have w63 : ∀ x, x < 2 ^ n → x < 2 ^ 63 := fun x h => Nat.lt_of_lt_of_le h (Nat.pow_le_pow_right (by decide) (by omega))
    refine ⟨_, rfl, (n : Int), rfl, by omega, by omega, fun D hD => ?_⟩
    obtain ⟨yg, eg⟩ := hB.lst
    have nDb : D ≠ b := (ne_of_none eg hD).symm
    refine lc_range (lo := 0) (n := n) (fun i H => ∃ acc : List Nat, H D = some (.lst (iv acc)) ∧ But b G H ∧ BagAt K H b c ∧ acc.length = i ∧ ∀ x ∈ acc, x < 2)
      ⟨[], upd_same, But.new hD, hB.same (same_new hD), rfl, (fun x hx => by cases hx)⟩ ?_ ?_
    · rintro i H hi ⟨acc, eD, s1, B1, la, a2⟩
      refine ⟨rfl, _, rfl, b, c, 2, rfl, B1, by decide, by decide, fun H2 r s2 B2 hr2 => ?_⟩
      refine ⟨iv acc, s2 D _ nDb eD, ?_, acc ++ [r], ?_, but_mut (s1.trans s2) hD, BagAt.mut hB hD B2, by simp [la], ?_⟩
      · rw [iv_len, la]
        exact small1000 (by omega)
      · rw [upd_same]
        simp [iv]
      · intro x hx
        rcases List.mem_append.mp hx with hx | hx
        · exact a2 x hx
        · have hx : x = r := by simpa using hx
          rw [hx]; exact hr2
    rintro H1 ⟨bs, eD, s1, B1, lbs, bs2⟩
    refine ⟨Nat.zero_le _, fun ll nll => ⟨(by show 3 ≤ sizeLine; decide), fun tt ntt => ⟨tt, _, rfl, .inl (.inl upd_same), rfl, _, _, rfl, _, _, rfl, _, [], rfl, rfl, ?_⟩⟩⟩
    have sl := same_new (o := .lst []) nll
    have st := same_new (o := .tup [V.ref D, V.ref ll, V.int 0]) ntt
    have s2 := s1.trans (But.same (sl.trans st))
    have B2 := B1.same (sl.trans st)
    have eD2 := st _ _ (sl _ _ eD)
    have el2 := st _ _ (upd_same (H := H1) (a := ll) (o := .lst []))
    have ngl : G ll = none := by
      obtain ⟨y1, e1⟩ := B1.lst
      exact s1.free (fun z => by rw [z] at nll; rw [nll] at e1; cases e1) nll
    have nlb : ll ≠ b := fun z => by rw [z] at ngl; rw [ngl] at eg; cases eg
    have nlD : D ≠ ll := ne_of_none eD nll
    generalize upd (upd H1 ll (.lst [])) tt (.tup [V.ref D, V.ref ll, V.int 0]) = H2 at s2 B2 eD2 el2 ⊢
    refine ⟨_, rfl, _, rfl, b, c, n, rfl, B2, n0, by omega, fun H3 r s3 B3 hr => ?_⟩
    have eN : (1 : Int) + (r : Int) = ((1 + r : Nat) : Int) := by omega
    refine ⟨_, _, rfl, rfl, ((1 + r : Nat) : Int), by show [V.int (1 + (r : Int))] = _; rw [eN], by omega, by omega, for_range (lo := 0) (n := 1 + r) (fun i σ H => ∃ us ms x y6, σ = [some (.ref b), some (.int (n : Int)), some (.ref D), some (.ref ll), some (.int ((x : Nat) : Int)), none, y6, none, none, none, none] ∧ But b G H ∧ BagAt K H b c ∧ H D = some (.lst (iv bs)) ∧ H ll = some (.lst us) ∧ Paired (SumV K H) us ms ∧ (∀ m ∈ ms, m < 2 ^ n ∧ m ≠ 0) ∧ x < 2 ^ n ∧ us.length = i)
      ⟨[], [], 0, _, rfl, s2.trans s3, B3, s3 _ _ nDb eD2, s3 _ _ nlb el2, .nil, (fun m h => by cases h), Nat.two_pow_pos n, rfl⟩ ?_ ?_⟩
    · rintro i σ H hi ⟨us, ms, x, y6, rfl, s4, B4, eD4, el4, P4, hm4, hx, lu⟩
      obtain ⟨y4, e4⟩ := B4.lst
      refine ⟨_, rfl, .inl ⟨rfl, us, .inl (.inl el4)⟩, _, rfl, _, rfl, b, c, n, rfl, B4, n0, by omega, fun H5 v m s5 B5 hv hm nz => ?_⟩
      have el5 := s5 _ _ nlb el4
      have eD5 := s5 _ _ nDb eD4
      have P5 := sums_but e4 s5 P4
      refine ⟨ll, us, v, rfl, rfl, el5, small1000 (by omega), ?_⟩
      have hv6 : SumV K (upd H5 ll (.lst (us ++ [v]))) v m := hv.but el5 But.at_
      refine ⟨_, rfl, _, rfl, 1, rfl, ll, us ++ [v], -1, v, rfl, rfl, .inl (.inl upd_same), atI_last _ _, v, m, rfl, hv6, w63 _ hm, _, _, rfl, rfl, us ++ [v], ms ++ [m], x ^^^ m, some (V.int (0 + (i : Int))), ?_, but_mut (s4.trans s5) ngl, BagAt.mut hB ngl B5, ?_, upd_same, ?_, ?_, Nat.xor_lt_two_pow hx hm, by simp [lu]⟩
      · show [some (V.ref b), some (V.int (n : Int)), some (V.ref D), some (V.ref ll), some (V.int (Builtin.bitXor (x : Int) (m : Int))), none, _, none, none, none, none] = _
        rw [xor_nat]
      · rw [upd_ne nlD]
        exact eD5
      · exact PySem.Paired.snoc (sums_but el5 But.at_ P5) hv6
      · intro z h
        rcases List.mem_append.mp h with h | h
        · exact hm4 z h
        · have h : z = m := by simpa using h
          rw [h]
          exact ⟨hm, nz⟩
    · rintro σ H ⟨us, ms, x, y6, rfl, s4, B4, eD4, el4, P4, hm4, hx, lu⟩
      have lm := Paired.len P4
      refine ⟨_, rfl, ll, rfl, ⟨us, .inl (.inl el4)⟩, fun D2 hD2 => ?_⟩
      refine lc_list (K := K) (a := ll) (xs := us) (fun j H' => ∃ zs, H' D2 = some (.lst zs) ∧ Same H H' ∧ Paired (LineV K H') zs ((ms.take j).map fun m => (m, wsum m bs % 2))) ⟨[], upd_same, same_new hD2, .nil⟩ (fun j H' _ ⟨_, _, s, _⟩ => .inl (.inl (s _ _ el4))) ?_ ?_
      · rintro j v H5 hj ⟨zs, eZ, s5, hz⟩
        obtain ⟨m, hm, hv⟩ := Paired.get P4 hj
        have hjl := (List.getElem?_eq_some_iff.mp hm).1
        have hm2 := (hm4 m (List.mem_of_getElem? hm)).1
        have lz := Paired.len hz
        rw [List.length_map, List.length_take] at lz
        refine ⟨rfl, _, rfl, _, rfl, _, rfl, v, D, m, bs, rfl, hv.same s5, .inl (.inl (s5 _ _ eD4)), (fun u hu => by rw [lbs]; exact bits_below hm2 hu), fun H6 s6 => ⟨(by show 2 ≤ sizeLine; decide), fun t nt => ?_⟩⟩
        have st := same_new (o := .tup [v, V.int ((wsum m bs % 2 : Nat) : Int)]) nt
        have s56 := s6.trans st
        have eZ6 := s56 _ _ eZ
        refine ⟨zs, eZ6, small1000 (by omega), zs ++ [V.ref t], upd_same, same_mut (s5.trans s56) hD2, ?_⟩
        rw [List.take_succ_eq_append_getElem hjl, (List.getElem?_eq_some_iff.mp hm).2, List.map_append]
        exact PySem.Paired.snoc (lines_but eZ6 But.at_ (lines_same s56 hz)) (LineV.but eZ6 But.at_ ⟨t, v, rfl, .inl (.inl upd_same), hv.same (s5.trans s56)⟩)
      rintro H5 ⟨zs, eZ, s5, hz⟩
      rw [lm, List.take_length] at hz
      have lz := Paired.len hz
      rw [List.length_map] at lz
      have el5 := s5 _ _ el4
      have eD5 := s5 _ _ eD4
      have P5 := sums_same s5 P4
      have B5 := B4.same s5
      have sG5 := s4.trans (But.same s5)
      obtain ⟨u0, us', rfl⟩ : ∃ u0 us', us = u0 :: us' := by
        cases us with
        | nil =>
          rw [List.length_nil] at lu
          omega
        | cons a l => exact ⟨a, l, rfl⟩
      obtain ⟨z0, zs', rfl⟩ : ∃ z0 zs', zs = z0 :: zs' := by
        cases zs with
        | nil =>
          rw [← lm] at lz
          simp at lz
        | cons a l => exact ⟨a, l, rfl⟩
      obtain ⟨m0, hm0, hv0⟩ := Paired.get P5 (i := 0) (x := u0) rfl
      obtain ⟨l0, hl0, hw0⟩ := Paired.get hz (i := 0) (x := z0) rfl
      have hm02 := hm4 m0 (List.mem_of_getElem? hm0)
      have l02 : l0.2 < 2 := by
        obtain ⟨m, _, rfl⟩ := List.mem_map.mp (List.mem_of_getElem? hl0)
        exact Nat.mod_lt _ (by decide)
      refine ⟨_, rfl, .inl ⟨rfl, _, .inl (.inl eZ)⟩, fun v H' => ∃ l, LineV K H' v l ∧ (l.1 < 2 ^ n ∧ l.1 ≠ 0 ∧ l.2 < 2) ∧ Same H5 H', ?_, ?_⟩
      · refine ⟨_, rfl, _, _, rfl, rfl, _, rfl, ite2 (fun hc => ?_) (fun _ => ?_)⟩
        · have x0 : x ≠ 0 := fun z => by
            have := of_decide_eq_true hc
            omega
          refine ⟨_, rfl, x, rfl, w63 _ hx, fun H8 p s8 n8 e8 => ⟨_, rfl, x, rfl, w63 _ hx, fun H9 p9 s9 n9 e9 => ⟨_, rfl, .ref p9, D, x, bs, rfl, ⟨p9, rfl, .inl (.inl e9)⟩, .inl (.inl ((s8.trans s9) _ _ eD5)), (fun u hu => by rw [lbs]; exact bits_below hx hu), fun H10 s10 => ⟨_, _, rfl, rfl, (by show 2 ≤ sizeLine; decide), fun t nt => ?_⟩⟩⟩⟩
          have e1 : (1 : Int) - ((wsum x bs % 2 : Nat) : Int) = ((1 - wsum x bs % 2 : Nat) : Int) := by omega
          have st := same_new (o := .tup [V.ref p, V.int (1 - ((wsum x bs % 2 : Nat) : Int))]) nt
          refine ⟨(x, 1 - wsum x bs % 2), ⟨t, .ref p, rfl, .inl (.inl ?_), p, rfl, .inl (.inl ((s9.trans (s10.trans st)) _ _ e8))⟩, ⟨hx, x0, by show 1 - wsum x bs % 2 < 2; omega⟩, s8.trans (s9.trans (s10.trans st))⟩
          show upd H10 t (.tup [V.ref p, V.int (1 - ((wsum x bs % 2 : Nat) : Int))]) t = _
          rw [upd_same, e1]
        · obtain ⟨tz, rz, rfl, htz, hrz⟩ := hw0
          refine ⟨_, rfl, ll, _, 0, u0, rfl, rfl, .inl (.inl el5), atI_nat (j := 0) rfl, _, rfl, D2, _, 0, .ref tz, rfl, rfl, .inl (.inl eZ), atI_nat (j := 0) rfl, tz, _, 1, _, rfl, rfl, htz, atI_nat (j := 1) rfl, _, _, rfl, rfl, (by show 2 ≤ sizeLine; decide), fun t nt => ?_⟩
          have e1 : (1 : Int) - (l0.2 : Int) = ((1 - l0.2 : Nat) : Int) := by omega
          have st := same_new (o := .tup [u0, V.int (1 - (l0.2 : Int))]) nt
          refine ⟨(m0, 1 - l0.2), ⟨t, u0, rfl, .inl (.inl ?_), hv0.same st⟩, ⟨hm02.1, hm02.2, by show 1 - l0.2 < 2; omega⟩, st⟩
          show upd H5 t (.tup [u0, V.int (1 - (l0.2 : Int))]) t = _
          rw [upd_same, e1]
      rintro v H6 ⟨l, hv, hl, s6⟩
      have eZ6 := s6 _ _ eZ
      refine ⟨D2, _, v, rfl, rfl, eZ6, small1000 (by omega), ?_⟩
      have nDG : G D2 = none := by
        obtain ⟨y4, e4⟩ := B4.lst
        exact s4.free (fun z => by rw [z] at hD2; rw [hD2] at e4; cases e4) hD2
      have s7 := but_mut (sG5.trans (But.same s6)) nDG (o := .lst (z0 :: zs' ++ [v]))
      have B7 := BagAt.mut hB nDG (B5.same s6) (o := .lst (z0 :: zs' ++ [v]))
      have P7 : Paired (LineV K (upd H6 D2 (.lst (z0 :: zs' ++ [v])))) (z0 :: zs' ++ [v]) ((ms.map fun m => (m, wsum m bs % 2)) ++ [l]) := PySem.Paired.snoc (lines_but eZ6 But.at_ (lines_same s6 hz)) (LineV.but eZ6 But.at_ hv)
      have e7 := upd_same (H := H6) (a := D2) (o := .lst (z0 :: zs' ++ [v]))
      have ok7 : ∀ k ∈ (ms.map fun m => (m, wsum m bs % 2)) ++ [l], k.1 < 2 ^ n ∧ k.1 ≠ 0 ∧ k.2 < 2 := fun k h => by
        rcases List.mem_append.mp h with h | h
        · obtain ⟨m, hm, rfl⟩ := List.mem_map.mp h
          exact ⟨(hm4 m hm).1, (hm4 m hm).2, Nat.mod_lt _ (by decide)⟩
        · have h : k = l := by simpa using h
          rw [h]
          exact hl
      generalize upd H6 D2 (.lst (z0 :: zs' ++ [v])) = H7 at s7 B7 P7 e7 ⊢
      have lz7 : ((ms.map fun m => (m, wsum m bs % 2)) ++ [l]).length = r + 2 := by
        rw [List.length_append, List.length_map, ← lm, lu]
        show 1 + r + 1 = r + 2
        omega
      generalize (ms.map fun m => (m, wsum m bs % 2)) ++ [l] = kl at P7 ok7 lz7
      have lk := Paired.len P7
      generalize z0 :: zs' ++ [v] = ws at P7 e7 lk
      refine ⟨_, rfl, D2, rfl, ⟨ws, .inl (.inl e7)⟩, fun D3 hD3 => ?_⟩
      refine lc_list (K := K) (a := D2) (xs := ws) (fun j H' => ∃ zs, H' D3 = some (.lst zs) ∧ Same H7 H' ∧ Paired (LinesV K H') zs ((kl.take j).map fun k => [k])) ⟨[], upd_same, same_new hD3, .nil⟩ (fun j H' _ ⟨_, _, s, _⟩ => .inl (.inl (s _ _ e7))) ?_ ?_
      · rintro j y H' hj ⟨zs, eZ, s, hz⟩
        obtain ⟨k, hk, hy⟩ := Paired.get P7 hj
        have hjl := (List.getElem?_eq_some_iff.mp hk).1
        have lz := Paired.len hz
        rw [List.length_map, List.length_take] at lz
        refine ⟨rfl, _, rfl, (by show 1 ≤ sizeLine; decide), fun t nt => ?_⟩
        have st := same_new (o := .tup [y]) nt
        have eZ2 := st _ _ eZ
        refine ⟨zs, eZ2, small1000 (by omega), zs ++ [V.ref t], upd_same, same_mut (s.trans st) hD3, ?_⟩
        rw [List.take_succ_eq_append_getElem hjl, (List.getElem?_eq_some_iff.mp hk).2, List.map_append]
        exact PySem.Paired.snoc (Paired.mono2 (fun _ _ h => LinesV.but eZ2 But.at_ (LinesV.same st h)) hz) (LinesV.but eZ2 But.at_ ⟨t, [y], rfl, .inl (.inl upd_same), .cons (hy.same (s.trans st)) .nil⟩)
      rintro H8 ⟨zs1, e8, s8, hz8⟩
      rw [lk, List.take_length] at hz8
      have B8 := B7.same s8
      obtain ⟨y7', eb7⟩ := B7.lst
      obtain ⟨y8', eb8⟩ := B8.lst
      have n3b : D3 ≠ b := (ne_of_none eb7 hD3).symm
      refine ⟨_, rfl, b, c, 3, rfl, B8, by decide, by decide, fun H9 r9 s9 B9 hr9 => ⟨(r9 : Int), rfl, by omega, by omega, fun D4 hD4 => ?_⟩⟩
      have e9 := s9 _ _ n3b e8
      have hz9 := Paired.mono2 (fun _ _ h => LinesV.but eb8 s9 h) hz8
      obtain ⟨y9', eb9⟩ := B9.lst
      have n4b : D4 ≠ b := (ne_of_none eb9 hD4).symm
      refine lc_range (lo := 0) (n := r9) (fun i H => ∃ zs cs, H D4 = some (.lst zs) ∧ But b H9 H ∧ BagAt K H b c ∧ Paired (LinesV K H) zs cs ∧ (∀ ls ∈ cs, ClOkZ n ls) ∧ zs.length = i)
        ⟨[], [], upd_same, But.new hD4, B9.same (same_new hD4), .nil, (fun l h => by cases h), rfl⟩ ?_ ?_
      · rintro i H hi ⟨zs, cs, eZ, s, Bz, hz, ok, lz⟩
        obtain ⟨yz, ez⟩ := Bz.lst
        refine ⟨rfl, _, rfl, _, rfl, b, c, n, 3, rfl, Bz, n0, by omega, by decide, fun H10 v ls s10 B10 hv hl10 ll10 => ?_⟩
        have eZ2 := s10 _ _ n4b eZ
        refine ⟨zs, eZ2, small1000 (by omega), zs ++ [v], cs ++ [ls], upd_same, but_mut (s.trans s10) hD4, BagAt.mut B9 hD4 B10, ?_, ?_, by simp [lz]⟩
        · exact PySem.Paired.snoc (Paired.mono2 (fun _ _ h => LinesV.but eZ2 But.at_ (LinesV.but ez s10 h)) hz) (LinesV.but eZ2 But.at_ hv)
        · intro x h
          rcases List.mem_append.mp h with h | h
          · exact ok x h
          · have h : x = ls := by simpa using h
            rw [h]
            exact ⟨hl10, by omega⟩
      rintro H10 ⟨zs2, cs2, e10, s10, B10, P10, ok10, l10⟩
      have lz1 := Paired.len hz8
      rw [List.length_map] at lz1
      have lz2 := Paired.len P10
      obtain ⟨y10, eb10⟩ := B10.lst
      refine ⟨D3, D4, zs1, zs2, rfl, rfl, s10 _ _ n3b e9, e10, Nat.le_of_lt (small1000 (by omega)), fun p np => ?_⟩
      have sp := same_new (o := .lst (zs1 ++ zs2)) np
      refine ⟨_, rfl, _, rfl, _, rfl, b, c, p, zs1 ++ zs2, rfl, B10.same sp, (ne_of_none eb10 np).symm, .inl (.inl (.inl upd_same)), by rw [List.length_append]; omega, fun H11 p2 ys s11 B11 np2 np2b ep2 perm => ?_⟩
      have sAll := (s7.trans (But.same s8)).trans (s9.trans (s10.trans (But.same sp)))
      have PA : Paired (LinesV K H11) (zs1 ++ zs2) ((kl.map fun k => [k]) ++ cs2) := by
        obtain ⟨yp, ebp⟩ := (B10.same sp).lst
        have f1 := Paired.mono2 (fun _ _ h => LinesV.but ebp s11 (LinesV.same sp (LinesV.but eb9 s10 h))) hz9
        have f2 := Paired.mono2 (fun _ _ h => LinesV.but ebp s11 (LinesV.same sp h)) P10
        exact paired_append f1 f2
      obtain ⟨ds, hds, pd⟩ := paired_perm perm PA
      refine ⟨p2, ys, rfl, .inl ⟨.inl (.inl ep2), fun q nq => ⟨(by show 2 ≤ sizeLine; decide), fun t nt => ?_⟩⟩⟩
      have sq := same_new (o := .tup ys) nq
      have st := same_new (o := .tup [V.int (n : Int), V.ref q]) nt
      refine kk _ _ ds ((sAll.trans s11).trans (But.same (sq.trans st))) (B11.same (sq.trans st)) ⟨t, q, ys, rfl, .inl (.inl upd_same), .inl (.inl (st _ _ upd_same)), Paired.mono2 (fun _ _ h => LinesV.same (sq.trans st) h) hds⟩ (fun ls h => ?_) ?_
      · rcases List.mem_append.mp (pd.mem_iff.mp h) with h | h
        · obtain ⟨k, hk, rfl⟩ := List.mem_map.mp h
          refine ⟨fun l hl => ?_, by show 1 ≤ 7; decide⟩
          have hl : l = k := by simpa using hl
          rw [hl]
          exact ok7 k hk
        · exact ok10 ls h
      · rw [pd.length_eq, List.length_append, List.length_map]
        omega
end
end Es
set_option Elab.async false
set_option linter.all false
set_option maxRecDepth 100000
set_option maxHeartbeats 4000000
namespace Es
open PySem PySem.Spec PyProof.Rows L2
section
variable {P : Program} {w : World} {K : PySem.W.Frag} {mg : Str → Option Value} {base : Heap}
theorem ok_law_beside_book {f : Addr} {fd : FuncData} (F : Fun K "_law_beside_book" "_law_beside_book" s_law_beside_book f fd) (T : Txt mg) (c_law_mixed : CalleeOf P w K mg base 2 "_law_mixed" ["bag", "things"] (sp_law_mixed K)) : FnG P w K mg base 3 f fd ["bag", "one", "other"] (sp_law_beside_bookZ K) := by
  refine okG F sc_law_beside_book (fun h => ?_) (fun cdv B out t0 G ys R E hr hg h => ?_)
  · obtain ⟨b, c, v, u, n, m, B, cs, ds, rfl, _⟩ := h
    rfl
  · obtain ⟨b, c, v, u, n, m, B, cs, ds, rfl, hB, hv, okv, hu, oku, nm, lcB, ldB, b120, kk⟩ := h
    refine ⟨_, (pss_cons
        (ps_asg (pe_tup (pa_cons (pe_callC c_law_mixed (hr.mono (by decide)) hg (by rfl) (pa_cons (pv 0) (pa_cons (pe_listRg rfl (by rfl) T.z_list (prg_1 (by rfl) T.z_range (pe_op op_add (pe_ix ix_tup (pv 1) pe_int (fun _ _ => rfl)) (pe_ix ix_tup (pv 2) pe_int (fun _ _ => rfl))))) pa_nil))) (pa_cons (pe_lst pa_nil) pa_nil))) (pg_tup (by rfl) (pgs_cons (pg_name (i := 3) sc_law_beside_book.nd rfl (.inr rfl)) (pgs_cons (pg_name (i := 4) sc_law_beside_book.nd rfl (.inl rfl)) pgs_nil))))
        (pss_cons
        (ps_for PassesOwn.never rfl (pi_tup (pe_tup (pa_cons (pe_tup (pa_cons pe_int (pa_cons (pv 1) pa_nil))) (pa_cons (pe_tup (pa_cons (pe_ix ix_tup (pv 1) pe_int (fun _ _ => rfl)) (pa_cons (pv 2) pa_nil))) pa_nil)))) (pg_tup (by rfl) (pgs_cons (pg_name (i := 5) sc_law_beside_book.nd rfl (.inr rfl)) (pgs_cons (pg_name (i := 6) sc_law_beside_book.nd rfl (.inl rfl)) pgs_nil)))
        (pss_one
          (ps_for PassesOwn.never rfl (pi_tup (pe_ix ix_tup (pv 6) pe_int (fun _ _ => rfl))) (pg_name (i := 7) sc_law_beside_book.nd rfl (.inl rfl))
          (pss_cons
            (ps_setLc (i := 8) (own := [("row", 10), ("bit", 11)]) (g := (gTup K 2 (gCons (gName 10) (gCons (gName 11) gNil)))) rfl sc_law_beside_book.nd rfl rfl (sw_true rfl rfl rfl (by decide +kernel)) (pi_tup (pv 7)) (blkOk_by (own := [("row", 10), ("bit", 11)]) (N := ["bag", "one", "other", "order", "found", "first", "book", "clause", "lines", "unknown", "row", "bit"]) (sc := defScope s_law_beside_book) (by decide +kernel)) (fun _ _ _ _ _ => (pg_tup (by rfl) (pgs_cons (pg_name (i := 10) sc_law_beside_book.nd rfl (.inl rfl)) (pgs_cons (pg_name (i := 11) sc_law_beside_book.nd rfl (.inl rfl)) pgs_nil)))) (fun _ _ _ _ _ => pts_nil) (fun _ _ _ _ _ => (pe_tup (pa_cons (pe_callTy (r := rTupK K) call_tuple_of (by rfl) T.z_tuple (by decide +kernel) (pa_cons (pe_callB (r := rSorted K) cr_sorted (by rfl) T.z_sorted (by decide +kernel) (pa_cons (pe_lc (own := [("unknown", 9)]) (wi := iTup K (tVar 10)) rfl sc_law_beside_book.nd (pi_tup (pv 10)) (blkOk_by (by kernel_rfl)) (fun _ _ _ _ _ => (pg_name (i := 9) sc_law_beside_book.nd rfl (.inl rfl))) (fun _ _ _ _ _ => pts_nil) (fun _ _ _ _ _ => (pe_ix (r := rIxL K) ix_list (pv 3) (pe_op op_add (pv 5) (pv 9)) (fun _ _ => rfl)))) pa_nil)) pa_nil)) (pa_cons (pv 11) pa_nil)))))
            (pss_one
            (ps_expr (pe_bm PySem.F.plainAttrs_list PySem.F.slot_list_append PySem.F.type_list_append mt_append (pv 4) (pa_cons (pe_callTy call_tuple_of (by rfl) T.z_tuple (by decide +kernel) (pa_cons (pe_callB (cr_sortedData hr.units) (by rfl) T.z_sorted (by decide +kernel) (pa_cons (pv 8) pa_nil)) pa_nil)) pa_nil))))))))
        (pss_one
        (ps_ret (pe_tup (pa_cons (pe_callB call_len_seq (by rfl) T.z_len (by decide +kernel) (pa_cons (pv 3) pa_nil)) (pa_cons (pe_callTy call_tuple_of (by rfl) T.z_tuple (by decide +kernel) (pa_cons (pe_callC c_law_mixed (hr.mono (by decide)) hg (by rfl) (pa_cons (pv 0) (pa_cons (pv 4) pa_nil))) pa_nil)) pa_nil))))))), ?_⟩
    obtain ⟨tv, cv, us, rfl, htv, hcv, hPv⟩ := hv
    obtain ⟨tu, cu, ws, rfl, htu, hcu, hPu⟩ := hu
    obtain ⟨yg, eg⟩ := hB.lst
    refine ⟨_, rfl, _, rfl, tv, _, 0, _, rfl, rfl, htv, rfl, _, rfl, tu, _, 0, _, rfl, rfl, htu, rfl, _, _, rfl, rfl, _, rfl, RgOk.of_le (by omega) (by omega) (by omega) (by omega), fun q0 nq0 => ?_⟩
    have enm : (n : Int) + (m : Int) = ((n + m : Nat) : Int) := by omega
    rw [enm]
    have sq := same_new (o := .lst (rgV 0 ((n + m : Nat) : Int))) nq0
    refine ⟨b, c, q0, _, rfl, hB.same sq, (ne_of_none eg nq0).symm, .inl (.inl (.inl upd_same)), by rw [rgV_length]; omega, fun H3 p ys s3 B3 np npb ep perm => ⟨Nat.zero_le _, fun l nl => ⟨(by show 2 ≤ sizeLine; decide), fun t nt => ?_⟩⟩⟩
    obtain ⟨os, rfl, po⟩ := order_of perm
    have lo : os.length = n + m := by rw [po.length_eq, List.length_range]
    obtain ⟨y3, e3⟩ := B3.lst
    have gl : G l = none := by
      have h1 : upd G q0 (.lst (rgV 0 ((n + m : Nat) : Int))) l = none := s3.free (fun z => by rw [z] at nl; rw [nl] at e3; cases e3) nl
      by_cases z : l = q0
      · rw [z]; exact nq0
      · rwa [upd_ne z] at h1
    have lb : l ≠ b := fun z => by rw [z] at gl; rw [gl] at eg; cases eg
    have pl : p ≠ l := fun z => by rw [z] at ep; rw [ep] at nl; cases nl
    have sl := same_new (o := .lst []) nl
    have st := same_new (o := .tup [V.ref p, V.ref l]) nt
    have ep4 := st _ _ (sl _ _ ep)
    have el4 := st _ _ (upd_same (H := H3) (a := l) (o := .lst []))
    have B4 := B3.same (sl.trans st)
    have s4 := ((But.same sq).trans s3).trans (But.same (b := b) (sl.trans st))
    have et4 := upd_same (H := upd H3 l (.lst [])) (a := t) (o := .tup [V.ref p, V.ref l])
    have htv4 := sqT_bag hB s4 htv
    have hcv4 := sqT_bag hB s4 hcv
    have htu4 := sqT_bag hB s4 htu
    have hcu4 := sqT_bag hB s4 hcu
    have hPv4 := Paired.mono2 (fun _ _ h => LinesV.bag hB s4 h) hPv
    have hPu4 := Paired.mono2 (fun _ _ h => LinesV.bag hB s4 h) hPu
    generalize upd (upd H3 l (.lst [])) t (.tup [V.ref p, V.ref l]) = H4 at ep4 el4 B4 s4 et4 htv4 hcv4 htu4 hcu4 hPv4 hPu4 ⊢
    refine ⟨t, _, rfl, .inl (.inl et4), rfl, _, _, rfl, _, _, rfl, rfl, ?_⟩
    refine ⟨_, rfl, (by show 2 ≤ sizeLine; decide), fun t1 nt1 => ?_⟩
    have st1 := same_new (o := .tup [V.int 0, V.ref tv]) nt1
    refine ⟨_, rfl, tv, _, 0, _, rfl, rfl, sqT_same st1 htv4, rfl, _, rfl, (by show 2 ≤ sizeLine; decide), fun t2 nt2 => ⟨(by show 2 ≤ sizeLine; decide), fun T nT => ?_⟩⟩
    have st2 := same_new (o := .tup [V.int (n : Int), V.ref tu]) nt2
    have sT := same_new (o := .tup [V.ref t1, V.ref t2]) nT
    have et1 := sT _ _ (st2 _ _ (upd_same (H := H4) (a := t1) (o := .tup [V.int 0, V.ref tv])))
    have et2 := sT _ _ (upd_same (H := upd H4 t1 (.tup [V.int 0, V.ref tv])) (a := t2) (o := .tup [V.int (n : Int), V.ref tu]))
    have eT := upd_same (H := upd (upd H4 t1 (.tup [V.int 0, V.ref tv])) t2 (.tup [V.int (n : Int), V.ref tu])) (a := T) (o := .tup [V.ref t1, V.ref t2])
    have s5 := st1.trans (st2.trans sT)
    generalize upd (upd (upd H4 t1 (.tup [V.int 0, V.ref tv])) t2 (.tup [V.int (n : Int), V.ref tu])) T (.tup [V.ref t1, V.ref t2]) = H5 at et1 et2 eT s5 ⊢
    have ep5 := s5 _ _ ep4
    have el5 := s5 _ _ el4
    have B5 := B4.same s5
    have sG := s4.trans (But.same (b := b) s5)
    have trips : ∀ (j : Nat) (y : V), [V.ref t1, V.ref t2][j]? = some y → ∃ (tb bk cb : Addr) (f k : Nat) (xs : List V) (xl : List (List (Nat × Nat))), y = .ref tb ∧ SqT K H5 tb [.int (f : Int), .ref bk] ∧ SqT K H5 bk [.int (k : Int), .ref cb] ∧ SqT K H5 cb xs ∧ Paired (LinesV K H5) xs xl ∧ ((∀ ls ∈ xl, ClOkZ k ls) ∧ xl.length ≤ B) ∧ f + k ≤ n + m := fun j y hy => by
      rcases j with _ | _ | j
      · exact ⟨t1, tv, cv, 0, n, us, cs, (Option.some.inj hy).symm, .inl (.inl et1), sqT_same s5 htv4, sqT_same s5 hcv4, Paired.mono2 (fun _ _ h => LinesV.same s5 h) hPv4, ⟨okv, lcB⟩, by omega⟩
      · exact ⟨t2, tu, cu, n, m, ws, ds, (Option.some.inj hy).symm, .inl (.inl et2), sqT_same s5 htu4, sqT_same s5 hcu4, Paired.mono2 (fun _ _ h => LinesV.same s5 h) hPu4, ⟨oku, ldB⟩, by omega⟩
      · simp at hy
    refine ⟨T, rfl, ⟨_, .inl (.inl eT)⟩, for_tup (K := K) (a := T) (xs := [V.ref t1, V.ref t2])
      (fun j σ H => ∃ zs es y5 y6 y7 y8, σ = [some (.ref b), some (.ref tv), some (.ref tu), some (.ref p), some (.ref l), y5, y6, y7, y8, none, none, none] ∧ But b G H ∧ BagAt K H b c ∧ But l H5 H ∧ H l = some (.lst zs) ∧ Paired (LinesV K H) zs es ∧ (∀ ls ∈ es, ClOkZ (n + m) ls) ∧ zs.length ≤ B * j)
      ⟨[], [], _, _, _, _, rfl, sG, B5, But.refl _ _, el5, .nil, (fun ls h => by cases h), Nat.le_refl _⟩ (fun j σ H _ ⟨_, _, _, _, _, _, _, _, _, s, _⟩ => sqT_but el5 s (.inl (.inl eT))) ?_ ?_⟩
    · rintro j y σ H hj ⟨zs, es, y5, y6, y7, y8, rfl, sg, Bg, s, el, P, ok, lz⟩
      obtain ⟨tb, bk, cb, f, k, xs, xl, rfl, htb, hbk, hcb, hPx, okx, fk⟩ := trips j y hj
      have lxs := Paired.len hPx
      have lxl := okx.2
      have j2 : j < 2 := (List.getElem?_eq_some_iff.mp hj).1
      have jB : B * j ≤ B := by
        rcases (show j = 0 ∨ j = 1 by omega) with rfl | rfl <;> omega
      have jS : B * (j + 1) = B * j + B := Nat.mul_succ B j
      refine ⟨tb, _, rfl, sqT_but el5 s htb, rfl, _, _, rfl, _, _, rfl, rfl, ?_⟩
      refine ⟨_, rfl, bk, _, 1, .ref cb, rfl, rfl, sqT_but el5 s hbk, rfl, cb, rfl, ⟨xs, sqT_but el5 s hcb⟩, for_tup (K := K) (a := cb) (xs := xs)
        (fun i σ H => ∃ zs es y7 y8, σ = [some (.ref b), some (.ref tv), some (.ref tu), some (.ref p), some (.ref l), some (.int (f : Int)), some (.ref bk), y7, y8, none, none, none] ∧ But b G H ∧ BagAt K H b c ∧ But l H5 H ∧ H l = some (.lst zs) ∧ Paired (LinesV K H) zs es ∧ (∀ ls ∈ es, ClOkZ (n + m) ls) ∧ zs.length ≤ B * j + i)
        ⟨zs, es, _, _, rfl, sg, Bg, s, el, P, ok, by omega⟩ (fun i σ H _ ⟨_, _, _, _, _, _, _, s, _⟩ => sqT_but el5 s hcb) ?_ ?_⟩
      · rintro i x σ H hi ⟨zs, es, y7, y8, rfl, sg, Bg, s, el, P, ok, lz⟩
        obtain ⟨ls, hls, hx⟩ := Paired.get hPx hi
        have hx := LinesV.but el5 s hx
        obtain ⟨okl, lls⟩ := okx.1 ls (List.mem_of_getElem? hls)
        obtain ⟨tc, uc, rfl, htc, hPc⟩ := hx
        have lPc := Paired.len hPc
        have epH := s _ _ pl ep5
        have ix : i < xs.length := (List.getElem?_eq_some_iff.mp hi).1
        refine ⟨_, rfl, tc, rfl, ⟨uc, htc⟩, fun D hD => ?_⟩
        have hfl : ∀ l ∈ ls, (sentL os f l.1).Nodup ∧ (∀ u ∈ sentL os f l.1, u < n + m) ∧ ∀ u ∈ bts l.1, f + u < os.length := fun l h => sentL_facts po fk (okl l h).1
        refine lc_tup (K := K) (a := tc) (xs := uc) (fun j H' => ∃ gs, H' D = some (.lst gs) ∧ Same H H' ∧ Paired (LineV K H') gs ((ls.take j).map fun l => (msk (sentL os f l.1), l.2))) ⟨[], upd_same, same_new hD, .nil⟩ (fun j H' _ ⟨_, _, s, _⟩ => sqT_same s htc) ?_ ?_
        · rintro j x H' hj ⟨gs, eD, s1, hg⟩
          obtain ⟨l, hl, hx⟩ := Paired.get hPc hj
          obtain ⟨tx, rx, rfl, htx, ⟨pr, rfl, hpr⟩⟩ := hx
          obtain ⟨nd, ltN, ltO⟩ := hfl l (List.mem_of_getElem? hl)
          have hjl := (List.getElem?_eq_some_iff.mp hl).1
          have lg := Paired.len hg
          rw [List.length_map, List.length_take] at lg
          have lbt := bts_len l.1
          have lsl : (sentL os f l.1).length ≤ 63 := by
            unfold sentL
            rw [List.length_map]
            exact lbt
          refine ⟨tx, _, rfl, sqT_same s1 htx, rfl, _, _, rfl, _, [], rfl, rfl, rfl, ?_⟩
          refine ⟨_, rfl, pr, rfl, ⟨_, sqT_same s1 hpr⟩, fun D2 hD2 => ?_⟩
          refine lc_tup (K := K) (a := pr) (xs := iv (bts l.1)) (fun i H2 => H2 D2 = some (.lst (iv ((sentL os f l.1).take i))) ∧ Same H' H2) ⟨upd_same, same_new hD2⟩ (fun i H2 _ h => sqT_same (s1.trans h.2) hpr) ?_ ?_
          · rintro i y H2 hi ⟨eD2, s2⟩
            obtain ⟨u, hu, rfl⟩ := iv_get hi
            have hul := (List.getElem?_eq_some_iff.mp hu).1
            have fu := ltO u (List.mem_of_getElem? hu)
            have ea : atI (iv os) ((f : Int) + (u : Int)) = some (V.int ((os.getD (f + u) 0 : Nat) : Int)) := by
              rw [show (f : Int) + (u : Int) = ((f + u : Nat) : Int) by omega]
              refine atI_nat ?_
              unfold iv
              rw [List.getElem?_map, List.getElem?_eq_getElem fu, List.getD_eq_getElem?_getD, List.getElem?_eq_getElem fu]
              rfl
            refine ⟨rfl, _, rfl, _, rfl, _, rfl, _, _, rfl, rfl, p, iv os, _, _, rfl, rfl, .inl (.inl ((s1.trans s2) _ _ epH)), ea, _, eD2, ?_, ?_, same_mut s2 hD2⟩
            · rw [iv_len, List.length_take]
              exact small1000 (by omega)
            · rw [upd_same]
              have e2 : (sentL os f l.1)[i]? = some (os.getD (f + u) 0) := by
                unfold sentL
                rw [List.getElem?_map, hu]
                rfl
              obtain ⟨e3, e4⟩ := List.getElem?_eq_some_iff.mp e2
              rw [List.take_succ_eq_append_getElem e3, e4]
              simp [iv]
          rintro H2 ⟨eD2, s2⟩
          have e5 : (iv (bts l.1)).length = (sentL os f l.1).length := by
            unfold sentL
            rw [iv_len, List.length_map]
          rw [e5, List.take_length] at eD2
          refine ⟨D2, (sentL os f l.1).map Int.ofNat, rfl, .inl (.inl (by rw [eD2, iv_ints])), by rw [List.length_map]; omega, fun ns p3 pm srt np3 => ?_⟩
          rw [sorted_iv nd (fun u h => by have := ltN u h; omega) pm srt]
          refine ⟨p3, _, rfl, .inl ⟨.inl (.inl upd_same), fun q nq => ⟨_, rfl, (by show 2 ≤ sizeLine; decide), fun q6 nq6 => ?_⟩⟩⟩
          have s3 := same_new (o := .lst (iv (bts (msk (sentL os f l.1))))) np3
          have s6 := same_new (o := .tup (iv (bts (msk (sentL os f l.1))))) nq
          have s7 := same_new (o := .tup [V.ref q, V.int (l.2 : Int)]) nq6
          have s27 := s2.trans (s3.trans (s6.trans s7))
          have eD7 := s27 _ _ eD
          refine ⟨gs, eD7, small1000 (by omega), gs ++ [V.ref q6], upd_same, same_mut (s1.trans s27) hD, ?_⟩
          rw [List.take_succ_eq_append_getElem hjl, (List.getElem?_eq_some_iff.mp hl).2, List.map_append]
          exact PySem.Paired.snoc (lines_but eD7 But.at_ (lines_same s27 hg)) (LineV.but eD7 But.at_ ⟨q6, .ref q, rfl, .inl (.inl upd_same), q, rfl, .inl (.inl (s7 _ _ upd_same))⟩)
        rintro H6 ⟨gs, eD, s6, hg⟩
        rw [lPc, List.take_length] at hg
        have lg := Paired.len hg
        rw [List.length_map] at lg
        have hc := paired_zip hg
        obtain ⟨f1, f2, f3, f4⟩ := sort_facts hc
        have e1 : (gs.zip (ls.map fun l => (msk (sentL os f l.1), l.2))).map (·.1) = gs := List.map_fst_zip (by rw [List.length_map]; omega)
        have el6 := s6 _ _ el
        refine ⟨_, rfl, .inl ⟨rfl, _, .inl (.inl el6)⟩, _, rfl, D, _, rfl, ?_, f1, f2, f3, f4, fun pp np => ?_⟩
        · rw [List.map_map]
          show SqL K H6 D ((gs.zip (ls.map fun l => (msk (sentL os f l.1), l.2))).map (·.1))
          rw [e1]
          exact .inl (.inl eD)
        refine ⟨pp, _, rfl, .inl ⟨.inl (.inl upd_same), fun q nq => ?_⟩⟩
        have pm : ((((gs.zip (ls.map fun l => (msk (sentL os f l.1), l.2))).map fun c => ((c.1, lineD c.2) : V × PyData)).mergeSort (PySem.W.dataLe false (·.2))).map (·.1)).Perm gs := by
          have h := (List.mergeSort_perm ((gs.zip (ls.map fun l => (msk (sentL os f l.1), l.2))).map fun c => ((c.1, lineD c.2) : V × PyData)) (PySem.W.dataLe false (·.2))).map (·.1)
          rw [List.map_map] at h
          have e2 : ((gs.zip (ls.map fun l => (msk (sentL os f l.1), l.2))).map ((fun b : V × PyData => b.1) ∘ fun c => ((c.1, lineD c.2) : V × PyData))) = gs := e1
          rw [e2] at h
          exact h
        obtain ⟨es', hes, pd⟩ := paired_perm pm hg
        generalize ((((gs.zip (ls.map fun l => (msk (sentL os f l.1), l.2))).map fun c => ((c.1, lineD c.2) : V × PyData)).mergeSort (PySem.W.dataLe false (·.2))).map (·.1)) = gsS at hes nq ⊢
        have sp := same_new (o := .lst gsS) np
        have sq' := same_new (o := .tup gsS) nq
        have el7 := (sp.trans sq') _ _ el6
        have s67 := s6.trans (sp.trans sq')
        refine ⟨l, zs, .ref q, rfl, rfl, el7, small1000 (by omega), zs ++ [.ref q], es ++ [es'], _, _, rfl, but_mut (sg.trans (But.same s67)) gl, BagAt.mut hB gl (Bg.same s67), (s.trans (But.same s67)).trans But.at_, upd_same, ?_, ?_, by simp; omega⟩
        · exact PySem.Paired.snoc (Paired.mono2 (fun _ _ h => LinesV.but el7 But.at_ (LinesV.same s67 h)) P) (LinesV.but el7 But.at_ ⟨q, _, rfl, .inl (.inl upd_same), lines_same (sp.trans sq') hes⟩)
        · intro x hx
          rcases List.mem_append.mp hx with hx | hx
          · exact ok x hx
          · have hx : x = es' := by simpa using hx
            rw [hx]
            refine ⟨fun l hl => ?_, ?_⟩
            · obtain ⟨l0, hl0, rfl⟩ := List.mem_map.mp (pd.mem_iff.mp hl)
              obtain ⟨nd, ltN, _⟩ := hfl l0 hl0
              exact ⟨msk_lt nd ltN, msk_ne nd (fun z => bts_ne (okl l0 hl0).1 (by omega) (okl l0 hl0).2.1 (List.map_eq_nil_iff.mp z)), (okl l0 hl0).2.2⟩
            · rw [pd.length_eq, List.length_map]
              exact lls
      · rintro σ H ⟨zs, es, y7, y8, rfl, sg, Bg, s, el, P, ok, lz⟩
        exact ⟨zs, es, _, _, _, _, rfl, sg, Bg, s, el, P, ok, by omega⟩
    · rintro σ H ⟨zs, es, y5, y6, y7, y8, rfl, sg, Bg, s, el, P, ok, lz⟩
      have les := Paired.len P
      obtain ⟨yb, eb⟩ := Bg.lst
      have epH := s _ _ pl ep5
      refine ⟨_, rfl, p, iv os, rfl, .inl (.inl (.inl epH)), _, rfl, _, rfl, b, c, l, zs, rfl, Bg, lb, .inl (.inl (.inl el)), by simp at lz; omega, fun H6 p6 ys6 s6 B6 np6 npb6 ep6 perm6 => ⟨p6, ys6, rfl, .inl ⟨.inl (.inl ep6), fun q2 nq => ⟨(by show 2 ≤ sizeLine; decide), fun t6 nt6 => ?_⟩⟩⟩⟩
      obtain ⟨ds', hds, pd⟩ := paired_perm perm6 (Paired.mono2 (fun _ _ h => LinesV.but eb s6 h) P)
      have el2 : ((iv os).length : Int) = ((n + m : Nat) : Int) := by rw [iv_len, lo]
      rw [el2]
      have sq2 := same_new (o := .tup ys6) nq
      have st6 := same_new (o := .tup [V.int ((n + m : Nat) : Int), V.ref q2]) nt6
      refine kk _ _ ds' ((sg.trans s6).trans (But.same (sq2.trans st6))) (B6.same (sq2.trans st6)) ⟨t6, q2, ys6, rfl, .inl (.inl upd_same), .inl (.inl (st6 _ _ upd_same)), Paired.mono2 (fun _ _ h => LinesV.same (sq2.trans st6) h) hds⟩ (fun x h => ok x (pd.mem_iff.mp h)) ?_
      rw [pd.length_eq]
      simp at lz
      omega
end
end Es
set_option Elab.async false
set_option linter.all false
set_option maxRecDepth 100000
set_option maxHeartbeats 4000000
namespace Es
open PySem PySem.Spec PyProof.Rows L2
section
variable {P : Program} {w : World} {K : PySem.W.Frag} {mg : Str → Option Value} {base : Heap}
theorem ok_law_flat_of {f : Addr} {fd : FuncData} (F : Fun K "_law_flat_of" "_law_flat_of" s_law_flat_of f fd) (T : Txt mg) (c_law_mask : CalleeOf P w K mg base 1 "_law_mask" ["row"] (sp_law_mask K)) (c_law_row : CalleeOf P w K mg base 1 "_law_row" ["mask"] (sp_law_row K)) : FnG P w K mg base 2 f fd ["lines"] (sp_flat_of K) := by
  refine okG F sc_law_flat_of (fun h => ?_) (fun cdv B out t0 G ys R E hr hg h => ?_)
  · obtain ⟨a, us, ls, rfl, _⟩ := h
    rfl
  · obtain ⟨a, us, ls, rfl, hS, hP, hl2, kk⟩ := h
    have hm : ∀ l ∈ ls, l.1 < 2 ^ 63 := fun l h => (hl2 l h).1
    have kN : lflat ls = none → ∀ H', Same G H' → R .non H' := fun e H' s => kk _ _ s (by rw [e]; rfl)
    have hu := hu_of hr
    refine ⟨_, (pss_cons
        (ps_set (i := 1) sc_law_flat_of.nd rfl (Or.inr rfl) pe_dnewK)
        (pss_cons
        (ps_for PassesOwn.never rfl (pi_list (pv 0)) (pg_tup (by rfl) (pgs_cons (pg_name (i := 2) sc_law_flat_of.nd rfl (.inl rfl)) (pgs_cons (pg_name (i := 3) sc_law_flat_of.nd rfl (.inl rfl)) pgs_nil)))
        (pss_cons
          (ps_set (i := 4) sc_law_flat_of.nd rfl (Or.inl rfl) (pe_callC c_law_mask (hr.mono (by decide)) hg (by rfl) (pa_cons (pv 2) pa_nil)))
          (pss_cons
          (ps_for PassesOwn.never rfl (pi_list (pe_callB (call_sortedDI rfl) (by rfl) T.z_sorted (by decide +kernel) (pa_cons (pv 1) pa_nil))) (pg_name (i := 5) sc_law_flat_of.nd rfl (.inl rfl))
          (pss_one
            (ps_if (pt_cmpR op_eq (pe_op op_and (pe_op op_shr (pv 4) (pv 5)) pe_int) pe_int (nomark _))
            (pss_one
              (ps_par (i := 4) (j := 3) rfl sc_law_flat_of.nd rfl rfl (by decide) rfl rfl (pa_cons (pe_op op_xor (pv 4) (pe_ix ix_tup (pe_dget hu (pv 1) (pv 5) (fun _ _ => rfl)) pe_int (fun _ _ => rfl))) (pa_cons (pe_op op_xor (pv 3) (pe_ix ix_tup (pe_dget hu (pv 1) (pv 5) (fun _ _ => rfl)) pe_int (fun _ _ => rfl))) pa_nil)) (by rfl)))
            pss_nil)))
          (pss_cons
          (ps_if (PW.pt (pw_and (pt_cmpR op_eq (pv 4) pe_int (nomark _)) (pw_and1 (pt_cmpR op_eq (pv 3) pe_int (nomark _)))))
          (pss_one
            (ps_ret pe_non))
          pss_nil)
          (pss_one
          (ps_if (pt_cmpR op_gt (pv 4) pe_int (nomark _))
          (pss_cons
            (ps_set (i := 6) sc_law_flat_of.nd rfl (Or.inl rfl) (pe_op op_sub (pe_bits (pe_op op_and (pv 4) (pe_un un_neg (pv 4)))) pe_int))
            (pss_cons
            (ps_for PassesOwn.never rfl (pi_list (pe_callB (call_sortedDI rfl) (by rfl) T.z_sorted (by decide +kernel) (pa_cons (pv 1) pa_nil))) (pg_name (i := 5) sc_law_flat_of.nd rfl (.inl rfl))
            (pss_one
              (ps_if (pt_cmpR op_eq (pe_op op_and (pe_op op_shr (pe_ix ix_tup (pe_dget hu (pv 1) (pv 5) (fun _ _ => rfl)) pe_int (fun _ _ => rfl)) (pv 6)) pe_int) pe_int (nomark _))
              (pss_one
                (ps_dput hu (pv 1) (pv 5) (pe_tup (pa_cons (pe_op op_xor (pe_ix ix_tup (pe_dget hu (pv 1) (pv 5) (fun _ _ => rfl)) pe_int (fun _ _ => rfl)) (pv 4)) (pa_cons (pe_op op_xor (pe_ix ix_tup (pe_dget hu (pv 1) (pv 5) (fun _ _ => rfl)) pe_int (fun _ _ => rfl)) (pv 3)) pa_nil))) rfl))
              pss_nil)))
            (pss_one
            (ps_dput hu (pv 1) (pv 6) (pe_tup (pa_cons (pv 4) (pa_cons (pv 3) pa_nil))) rfl))))
          pss_nil))))))
        (pss_one
        (ps_ret (pe_callTy call_tuple_of (by rfl) T.z_tuple (by decide +kernel) (pa_cons (pe_callB (cr_sortedData hr.units) (by rfl) T.z_sorted (by decide +kernel) (pa_cons (pe_lc (own := [("head", 5)]) rfl sc_law_flat_of.nd (pi_list (pe_callB (call_sortedDI rfl) (by rfl) T.z_sorted (by decide +kernel) (pa_cons (pv 1) pa_nil))) (blkOk_by (own := [("head", 5)]) (N := ["lines", "heads", "row", "bit", "mask", "head", "at"]) (sc := defScope s_law_flat_of) (by decide +kernel)) (fun _ _ _ _ _ => (pg_name (i := 5) sc_law_flat_of.nd rfl (.inl rfl))) (fun _ _ _ _ _ => pts_nil) (fun _ _ _ _ _ => (pe_tup (pa_cons (pe_callC c_law_row (hr.mono (by decide)) hg (by rfl) (pa_cons (pe_ix (r := rIxT K) ix_tup (pe_dget hu (pv 1) (pv 5) (fun _ _ => rfl)) pe_int (fun _ _ => rfl)) pa_nil)) (pa_cons (pe_ix (r := rIxT K) ix_tup (pe_dget hu (pv 1) (pv 5) (fun _ _ => rfl)) pe_int (fun _ _ => rfl)) pa_nil))))) pa_nil)) pa_nil)))))), ?_⟩
    intro d nd0
    have lenP : us.length = ls.length := Paired.len hP
    have hm' : ∀ i, ∀ l ∈ ls.take i, l.1 < 2 ^ 63 := fun i l hx => hm l (List.mem_of_mem_take hx)
    refine ⟨_, rfl, a, rfl, ⟨us, (same_new nd0).seq hS⟩, for_list (K := K) (a := a) (xs := us)
      (fun i σ H2 => ∃ kvs hs y2 y3 y4 y5 y6, σ = [some (.ref a), some (.ref d), y2, y3, y4, y5, y6] ∧ Same G H2 ∧ H2 d = some (.dK kvs) ∧ DictR (PairI K H2) kvs hs ∧ lflat (ls.take i) = some hs)
      ⟨[], [], none, none, none, none, none, rfl, same_new nd0, upd_same, .nil, rfl⟩ (fun i σ H2 _ ⟨_, _, _, _, _, _, _, _, s2, _⟩ => s2.seq hS) ?_ ?_⟩
    · rintro i x σ H2 hi ⟨kvs, hs, y2, y3, y4, y5, y6, rfl, s2, ed, DR, el⟩
      obtain ⟨⟨m, b⟩, hli, ⟨t, r, rfl, ht, hrm⟩⟩ := Paired.get hP hi
      have hmm : m < 2 ^ 63 := hm _ (List.mem_of_getElem? hli)
      have R := lflat_red _ (hm' i) hs el
      have h63 : ∀ e ∈ hs, e.1 < 63 := fun e he => (R.own e he).1
      have len63 : hs.length ≤ 63 := by
        have := dictM_len (kvs := (hs.map (·.1)).map fun (u : Nat) => ((Sum.inl (u : Int) : Key), V.bl true)) (m := msk (hs.map (·.1))) ⟨hs.map (·.1), rfl, R.nd, fun u => by
          rw [msk_bit R.nd, decide_eq_true_eq]
          constructor
          · intro h
            obtain ⟨e, he, z⟩ := List.mem_map.mp h
            exact ⟨z ▸ h63 e he, h⟩
          · exact fun h => h.2⟩
        simpa using this
      have next := lflat_take hli
      rw [el] at next
      have next : lflat (ls.take (i + 1)) = lstep hs (m, b) := next
      refine ⟨t, [r, .int (b : Int)], rfl, sqT_same s2 ht, rfl, r, [.int (b : Int)], rfl, _, [], rfl, rfl, ?_⟩
      refine ⟨_, rfl, r, m, rfl, hrm.same s2, hmm, ?_⟩
      obtain ⟨k1, k2⟩ := DR.sorted R.nd h63
      refine ⟨_, rfl, d, kvs, _, rfl, .inl ed, DR.keys, k1, fun ys p hp hsd np => ?_⟩
      rw [k2 ys hp hsd]
      have sp0 := same_new (o := .lst (iv (srt (hs.map (·.1))))) np
      refine ⟨p, rfl, ⟨_, .inl (.inl upd_same)⟩, for_list (K := K) (a := p) (xs := iv (srt (hs.map (·.1))))
        (fun j σ H3 => ∃ y5, σ = [some (.ref a), some (.ref d), some r, some (.int ((((srt (hs.map (·.1))).take j).foldl (lred1 hs) (m, b)).2 : Int)), some (.int ((((srt (hs.map (·.1))).take j).foldl (lred1 hs) (m, b)).1 : Int)), y5, y6] ∧
          Same (upd H2 p (.lst (iv (srt (hs.map (·.1)))))) H3)
        ⟨y5, rfl, Same.refl _⟩ (fun j σ H3 _ ⟨_, _, s3⟩ => .inl (.inl (s3 _ _ upd_same))) ?_ ?_⟩
      · rintro j y σ H3 hj ⟨y5, rfl, s3⟩
        obtain ⟨h, hh1, rfl⟩ := iv_get hj
        have hjl := (List.getElem?_eq_some_iff.mp hh1).1
        have hin := (mem_srt.mp (List.mem_of_getElem? hh1)).2
        have s23 := sp0.trans s3
        have fold1 : ((srt (hs.map (·.1))).take (j + 1)).foldl (lred1 hs) (m, b) = lred1 hs (((srt (hs.map (·.1))).take j).foldl (lred1 hs) (m, b)) h := by
          rw [List.take_succ_eq_append_getElem hjl, List.foldl_append, (List.getElem?_eq_some_iff.mp hh1).2]
          rfl
        rw [fold1]
        generalize ((srt (hs.map (·.1))).take j).foldl (lred1 hs) (m, b) = pr
        refine ⟨_, rfl, _, rfl, _, _, rfl, rfl, Int.natCast_nonneg _, _, _, rfl, rfl, rfl, _, rfl, ?_⟩
        have sa1 := shr_and pr.1 h
        refine ite2 (fun hc => ?_) (fun hc => ?_)
        · have q : pr.1.testBit h = true := by
            cases q : pr.1.testBit h with
            | true => rfl
            | false =>
              rw [q, if_neg Bool.false_ne_true] at sa1
              have z := V.int.inj (of_decide_eq_true hc)
              rw [sa1] at z
              cases z
          cases lk : look hs h with
          | none => exact absurd hin (look_none.mp lk)
          | some e =>
            have l1 : lred1 hs pr h = (pr.1 ^^^ e.1, pr.2 ^^^ e.2) := by
              unfold lred1
              rw [if_pos q, lk]
            obtain ⟨v, ev, ⟨tv, rfl, htv⟩⟩ := (DR.val (h := h)).2 e lk
            have g1 : DGet H3 d (.int (h : Int)) (some (.ref tv)) := by rw [← ev]; exact DGet.k (k := Sum.inl (h : Int)) (s23 _ _ ed)
            refine ⟨_, rfl, _, rfl, _, rfl, d, _, rfl, g1, tv, _, 0, _, rfl, rfl, sqT_same s23 htv, atI_nat (j := 0) rfl, _, _, rfl, rfl, ?_⟩
            refine ⟨_, rfl, _, rfl, _, rfl, d, _, rfl, g1, tv, _, 1, _, rfl, rfl, sqT_same s23 htv, atI_nat (j := 1) rfl, _, _, rfl, rfl, ?_⟩
            refine ⟨_, _, rfl, some (V.int (h : Int)), ?_, s3⟩
            rw [l1]
            show [some (V.ref a), some (V.ref d), some r, some (V.int (Builtin.bitXor (pr.2 : Int) (e.2 : Int))), some (V.int (Builtin.bitXor (pr.1 : Int) (e.1 : Int))), some (V.int (h : Int)), y6] = _
            rw [xor_nat, xor_nat]
        · have q : pr.1.testBit h = false := by
            cases q : pr.1.testBit h with
            | false => rfl
            | true =>
              rw [q, if_pos rfl] at sa1
              exact absurd (decide_eq_true (congrArg V.int sa1)) hc
          have l1 : lred1 hs pr h = pr := by
            unfold lred1
            rw [if_neg (by rw [q]; exact Bool.false_ne_true)]
          rw [l1]
          exact ⟨_, rfl, s3⟩
      · rintro σ H3 ⟨y5, rfl, s3⟩
        rw [iv_len, List.take_length]
        have s23 := sp0.trans s3
        obtain ⟨r1, _, r3⟩ := lred_spec R (p := (m, b)) hmm
        have er : (srt (hs.map (·.1))).foldl (lred1 hs) (m, b) = lred hs (m, b) := rfl
        rw [er]
        unfold lstep at next
        generalize lred hs (m, b) = pr at r1 r3 next er ⊢
        refine ⟨_, rfl, rfl, _, rfl, ?_⟩
        cases lw : low pr.1 with
        | none =>
          rw [lw] at next
          have z0 := (low_none r1).mp lw
          refine ite2 (fun _ => ?_) (fun hc => ?_)
          · refine ⟨_, rfl, rfl, _, rfl, ite2 (fun hc => ?_) (fun hc => ?_)⟩
            · have b1 : pr.2 = 1 := by
                have z := V.int.inj (of_decide_eq_true hc)
                omega
              have nn : lflat ls = none := by
                refine lflat_none_take (i := i + 1) ?_
                rw [next]
                simp [b1]
              exact kN nn _ (s2.trans s23)
            ·
              refine ⟨_, rfl, _, _, rfl, rfl, _, rfl, ite2 (fun hc2 => ?_) (fun _ => ?_)⟩
              · have z := of_decide_eq_true hc2
                rw [z0] at z
                exact absurd z (by decide)
              · refine ⟨kvs, hs, _, _, _, _, _, rfl, s2.trans s23, s23 _ _ ed, DR.imp fun _ _ z => z.same s23, ?_⟩
                rw [next]
                have b1 : ¬ pr.2 = 1 := fun z => hc (by rw [z]; decide)
                simp [b1]
          · exact absurd (by rw [z0]; decide) hc
        | some at_ =>
          rw [lw] at next
          have nz : pr.1 ≠ 0 := fun z => by rw [z] at lw; cases lw
          have pos : 0 < pr.1 := Nat.pos_of_ne_zero nz
          refine ite2 (fun hc => ?_) (fun _ => ?_)
          · have z := V.int.inj (of_decide_eq_true hc)
            omega
          · refine iteF ?_
            refine ⟨_, rfl, _, _, rfl, rfl, _, rfl, ite2 (fun _ => ?_) (fun hc => ?_)⟩
            ·
              refine ⟨_, rfl, _, rfl, _, rfl, _, _, rfl, rfl, _, rfl, _, _, rfl, rfl, ?_⟩
              have eat : (Builtin.Int.intBits (Builtin.bitAnd (pr.1 : Int) (-(pr.1 : Int))) : Int) - 1 = (at_ : Int) := by
                rw [and_neg lw, bits_pow]
                omega
              show tSeq _ _ _ [some (V.ref a), some (V.ref d), some r, some (V.int (pr.2 : Int)), some (V.int (pr.1 : Int)), y5, some (V.int ((Builtin.Int.intBits (Builtin.bitAnd (pr.1 : Int) (-(pr.1 : Int))) : Int) - 1))] H3
              rw [eat]
              have ed3 := s23 _ _ ed
              have DR3 := DR.imp fun _ _ z => z.same s23
              refine ⟨_, rfl, d, kvs, _, rfl, .inl ed3, DR.keys, k1, fun ys2 p2 hp2 hsd2 np2 => ?_⟩
              rw [k2 ys2 hp2 hsd2]
              have sp2 := same_new (o := .lst (iv (srt (hs.map (·.1))))) np2
              have ne2 : p2 ≠ d := (ne_of_none ed3 np2).symm
              have sG3 := (s2.trans s23).trans sp2
              refine ⟨p2, rfl, ⟨_, .inl (.inl upd_same)⟩, for_list (K := K) (a := p2) (xs := iv (srt (hs.map (·.1))))
                (fun j σ H4 => ∃ kvs4 y5, σ = [some (.ref a), some (.ref d), some r, some (.int (pr.2 : Int)), some (.int (pr.1 : Int)), y5, some (.int (at_ : Int))] ∧ Same G H4 ∧ H4 p2 = some (.lst (iv (srt (hs.map (·.1))))) ∧
                  H4 d = some (.dK kvs4) ∧ DictR (PairI K H4) kvs4 (lputTo hs ((srt (hs.map (·.1))).take j) at_ pr))
                ⟨kvs, y5, rfl, sG3, upd_same, sp2 _ _ ed3, by rw [List.take_zero, lputTo_nil]; exact DR3.imp fun _ _ z => z.same sp2⟩ (fun j σ H4 _ ⟨_, _, _, _, e4, _⟩ => .inl (.inl e4)) ?_ ?_⟩
              · rintro j y σ H4 hj ⟨kvs4, y5, rfl, s4, ep4, ed4, DR4⟩
                obtain ⟨h, hh1, rfl⟩ := iv_get hj
                obtain ⟨hjl, ejl⟩ := List.getElem?_eq_some_iff.mp hh1
                have hin := (mem_srt.mp (List.mem_of_getElem? hh1)).2
                have hno : h ∉ (srt (hs.map (·.1))).take j := by
                  intro z
                  obtain ⟨i2, h2, e2⟩ := List.mem_iff_getElem.mp z
                  rw [List.getElem_take] at e2
                  have h3 : i2 < j := by
                    rw [List.length_take] at h2
                    omega
                  have ndS : (srt (hs.map (·.1))).Nodup := (srt_lt _).imp fun h => Nat.ne_of_lt h
                  have := (List.getElem_inj ndS).mp (show (srt (hs.map (·.1)))[i2]'(by omega) = (srt (hs.map (·.1)))[j]'hjl from e2.trans ejl.symm)
                  omega
                cases lk : look hs h with
                | none => exact absurd hin (look_none.mp lk)
                | some e =>
                  obtain ⟨g1, g2, g3⟩ := lputTo_step R.nd (S := (srt (hs.map (·.1))).take j) (a := at_) (p := pr) hno lk
                  have tk : (srt (hs.map (·.1))).take (j + 1) = (srt (hs.map (·.1))).take j ++ [h] := by rw [List.take_succ_eq_append_getElem hjl, ejl]
                  rw [tk]
                  obtain ⟨v, ev, ⟨tv, rfl, htv⟩⟩ := (DR4.val (h := h)).2 e g1
                  have gd : DGet H4 d (.int (h : Int)) (some (.ref tv)) := by rw [← ev]; exact DGet.k (k := Sum.inl (h : Int)) ed4
                  refine ⟨_, rfl, _, rfl, d, _, rfl, gd, tv, _, 0, _, rfl, rfl, htv, atI_nat (j := 0) rfl, _, rfl, _, _, rfl, rfl, Int.natCast_nonneg _, _, _, rfl, rfl, rfl, _, rfl, ?_⟩
                  have sa1 := shr_and e.1 at_
                  refine ite2 (fun hc => ?_) (fun hc => ?_)
                  · have q : e.1.testBit at_ = true := by
                      cases q : e.1.testBit at_ with
                      | true => rfl
                      | false =>
                        rw [q, if_neg Bool.false_ne_true] at sa1
                        have z := V.int.inj (of_decide_eq_true hc)
                        rw [sa1] at z
                        cases z
                    refine ⟨_, rfl, _, rfl, d, _, rfl, gd, tv, _, 0, _, rfl, rfl, htv, atI_nat (j := 0) rfl, _, rfl, _, _, rfl, rfl, ?_⟩
                    refine ⟨_, rfl, _, rfl, d, _, rfl, gd, tv, _, 1, _, rfl, rfl, htv, atI_nat (j := 1) rfl, _, rfl, _, _, rfl, rfl, ?_⟩
                    refine ⟨(by show 2 ≤ sizeLine; decide), fun t2 nt2 => ?_⟩
                    have st2 := same_new (o := .tup [V.int (Builtin.bitXor (e.1 : Int) (pr.1 : Int)), V.int (Builtin.bitXor (e.2 : Int) (pr.2 : Int))]) nt2
                    have len4 : kvs4.length ≤ 63 := by
                      have z := Paired.len DR4
                      have z2 : (lputTo hs ((srt (hs.map (·.1))).take j) at_ pr).length = hs.length := by unfold lputTo; rw [List.length_map]
                      omega
                    refine ⟨_, rfl, _, rfl, d, _, rfl, DPut.k (k := Sum.inl (h : Int)) (st2 _ _ ed4) (small1000 (by omega)), ?_⟩
                    have hPI : PairI K (upd H4 t2 (.tup [V.int (Builtin.bitXor (e.1 : Int) (pr.1 : Int)), V.int (Builtin.bitXor (e.2 : Int) (pr.2 : Int))])) (.ref t2) (e.1 ^^^ pr.1, e.2 ^^^ pr.2) := by
                      refine ⟨t2, rfl, .inl (.inl ?_)⟩
                      rw [upd_same, xor_nat, xor_nat]
                    have DR5 := DictR.set hPI (DR4.imp fun _ _ z => z.same st2) (h := h) (by rw [lputTo_keys]; exact hin)
                    rw [g2 q] at DR5
                    refine ⟨_, _, rfl, same_mut (s4.trans st2) nd0, ?_, upd_same, DR5.imp fun _ _ z => z.updK (st2 _ _ ed4)⟩
                    rw [upd_ne ne2]
                    exact st2 _ _ ep4
                  · have q : e.1.testBit at_ = false := by
                      cases q : e.1.testBit at_ with
                      | false => rfl
                      | true =>
                        rw [q, if_pos rfl] at sa1
                        exact absurd (decide_eq_true (congrArg V.int sa1)) hc
                    refine ⟨kvs4, _, rfl, s4, ep4, ed4, ?_⟩
                    rw [← g3 q]
                    exact DR4
              · rintro σ H4 ⟨kvs4, y5, rfl, s4, ep4, ed4, DR4⟩
                rw [iv_len, List.take_length] at DR4
                refine ⟨_, rfl, _, rfl, (by show 2 ≤ sizeLine; decide), fun t2 nt2 => ?_⟩
                have st2 := same_new (o := .tup [V.int (pr.1 : Int), V.int (pr.2 : Int)]) nt2
                have len4 : kvs4.length ≤ 63 := by
                  have z := Paired.len DR4
                  have z2 : (lputTo hs (srt (hs.map (·.1))) at_ pr).length = hs.length := by unfold lputTo; rw [List.length_map]
                  omega
                refine ⟨_, rfl, _, rfl, d, _, rfl, DPut.k (k := Sum.inl (at_ : Int)) (st2 _ _ ed4) (small1000 (by omega)), ?_⟩
                have hPI : PairI K (upd H4 t2 (.tup [V.int (pr.1 : Int), V.int (pr.2 : Int)])) (.ref t2) pr := ⟨t2, rfl, .inl (.inl upd_same)⟩
                have fresh : lookB (lputTo hs (srt (hs.map (·.1))) at_ pr) at_ = none := by
                  refine look_none.mpr ?_
                  rw [lputTo_keys]
                  intro z
                  have b2 := (low_iff.mp lw).2.1
                  rw [r3 at_ z] at b2
                  cases b2
                have DR5 := (DR4.imp fun _ _ z => z.same st2).put fresh hPI
                refine ⟨_, lput hs at_ pr, _, _, _, _, _, rfl, same_mut (s4.trans st2) nd0, upd_same, ?_, ?_⟩
                · rw [← lputTo_all hs h63]
                  exact DR5.imp fun _ _ z => z.updK (st2 _ _ ed4)
                · rw [next]
            · exact absurd (decide_eq_true (by show (0 : Int) < (pr.1 : Int); omega)) hc
    · rintro σ H2 ⟨kvs, hs, y2, y3, y4, y5, y6, rfl, s2, ed, DR, el⟩
      rw [lenP, List.take_length] at el
      have R := lflat_red _ hm hs el
      have h63 : ∀ e ∈ hs, e.1 < 63 := fun e he => (R.own e he).1
      obtain ⟨k1, k2⟩ := DR.sorted R.nd h63
      refine ⟨_, rfl, d, kvs, _, rfl, .inl ed, DR.keys, k1, fun ys p hp hsd np => ?_⟩
      rw [k2 ys hp hsd]
      have sp0 := same_new (o := .lst (iv (srt (hs.map (·.1))))) np
      have lenS : (srt (hs.map (·.1))).length = hs.length := by
        have z := congrArg List.length (k2 ys hp hsd)
        rw [List.length_map, iv_len, hp.length_eq, List.length_map] at z
        exact z.symm
      have F := lflat_flat ls hl2 hs el
      have eB : (byHead hs).length = (srt (hs.map (·.1))).length := by unfold byHead; rw [List.length_map]
      refine ⟨p, rfl, ⟨_, .inl (.inl upd_same)⟩, fun D hD => ?_⟩
      refine lc_list (K := K) (a := p) (xs := iv (srt (hs.map (·.1))))
        (fun j H3 => ∃ cs : List (V × (Nat × Nat)), H3 D = some (.lst (cs.map (·.1))) ∧ Same (upd H2 p (.lst (iv (srt (hs.map (·.1)))))) H3 ∧ (∀ c ∈ cs, LineV K H3 c.1 c.2) ∧ cs.map (·.2) = ((byHead hs).take j).map (·.2))
        ⟨[], upd_same, same_new hD, (fun x hx => by cases hx), rfl⟩ (fun j H3 _ ⟨_, _, s3, _⟩ => .inl (.inl (s3 _ _ upd_same))) ?_ ?_
      · rintro j y H3 hj ⟨cs, eD, s3, hb, lb⟩
        obtain ⟨h, hh1, rfl⟩ := iv_get hj
        have hjl := (List.getElem?_eq_some_iff.mp hh1).1
        have hin := (mem_srt.mp (List.mem_of_getElem? hh1)).2
        have s23 := sp0.trans s3
        cases lk : look hs h with
        | none => exact absurd hin (look_none.mp lk)
        | some e =>
          obtain ⟨v, ev, ⟨tv, rfl, htv⟩⟩ := (DR.val (h := h)).2 e lk
          have e63 : e.1 < 2 ^ 63 := (R.own _ (look_mem lk)).2.1
          have bj : (byHead hs)[j]? = some (h, e) := by
            unfold byHead
            rw [List.getElem?_map, hh1]
            show some (h, (look hs h).getD (0, 0)) = _
            rw [lk]
            rfl
          have bl := (List.getElem?_eq_some_iff.mp bj).1
          have g1 : ∀ H4, Same H3 H4 → DGet H4 d (.int (h : Int)) (some (.ref tv)) := fun H4 s4 => by rw [← ev]; exact DGet.k (k := Sum.inl (h : Int)) (s4 _ _ (s23 _ _ ed))
          refine ⟨rfl, _, rfl, _, rfl, d, _, rfl, g1 H3 (Same.refl _), tv, _, 0, _, rfl, rfl, sqT_same s23 htv, atI_nat (j := 0) rfl, e.1, rfl, e63, fun H4 q s4 nq eq => ?_⟩
          refine ⟨_, rfl, _, rfl, d, _, rfl, g1 H4 s4, tv, _, 1, _, rfl, rfl, sqT_same (s23.trans s4) htv, atI_nat (j := 1) rfl, (by show 2 ≤ sizeLine; decide), fun t nt => ?_⟩
          have st := s4.trans (same_new (o := .tup [V.ref q, V.int (e.2 : Int)]) nt)
          have eD5 := st _ _ eD
          have lc : cs.length = j := by
            have z := congrArg List.length lb
            rw [List.length_map, List.length_map, List.length_take] at z
            omega
          refine ⟨cs.map (·.1), eD5, (by rw [List.length_map]; have := canon_len hs; unfold canon at this; rw [List.length_map] at this; exact small1000 (by omega)), cs ++ [(.ref t, e)], ?_, same_mut (s3.trans st) hD, ?_, ?_⟩
          · rw [upd_same, List.map_append]
            rfl
          · intro x hx
            rcases List.mem_append.mp hx with hx | hx
            · exact LineV.but eD5 But.at_ ((hb x hx).same st)
            · have hx : x = (.ref t, e) := by simpa using hx
              subst hx
              have ht : (upd H4 t (.tup [V.ref q, V.int (e.2 : Int)])) t = some (.tup [V.ref q, V.int (e.2 : Int)]) := upd_same
              exact LineV.but eD5 But.at_ ⟨t, .ref q, rfl, .inl (.inl ht), q, rfl, .inl (.inl (same_new nt _ _ eq))⟩
          · rw [List.take_succ_eq_append_getElem bl, (List.getElem?_eq_some_iff.mp bj).2, List.map_append, List.map_append, lb]
            rfl
      · rintro H3 ⟨cs, eD, s3, hb, lb⟩
        rw [iv_len, ← eB, List.take_length] at lb
        have s23 := sp0.trans s3
        have pp : (cs.map (·.2)).Perm (hs.map (·.2)) := by
          rw [lb]
          exact (byHead_perm F.red).map (·.2)
        obtain ⟨f1, f2, f3, f4⟩ := sort_facts hb
        refine ⟨D, cs.map (fun c => (c.1, lineD c.2)), rfl, ?_, f1, f2, f3, f4, fun q nq => ?_⟩
        · rw [List.map_map]
          exact .inl (.inl eD)
        refine ⟨q, _, rfl, .inl ⟨.inl (.inl upd_same), fun t nt => ?_⟩⟩
        have st := (same_new nq).trans (same_new (o := .tup (((cs.map (fun c => ((c.1, lineD c.2) : V × PyData))).mergeSort (PySem.W.dataLe false (·.2))).map (·.1))) nt)
        refine kk _ _ ((s2.trans s23).trans st) ?_
        rw [el]
        exact ⟨t, _, rfl, .inl (.inl upd_same), lines_same st (sorted_lines F hb pp)⟩
end
end Es
set_option Elab.async false
set_option linter.all false
set_option maxRecDepth 100000
set_option maxHeartbeats 4000000
namespace Es
open PySem PySem.Spec PyProof.Rows L2
section
variable {P : Program} {w : World} {K : PySem.W.Frag} {mg : Str → Option Value} {base : Heap}
theorem ok_law_halves {f : Addr} {fd : FuncData} (F : Fun K "_law_halves" "_law_halves" s_law_halves f fd) (T : Txt mg) (c_law_flat_of : CalleeOf P w K mg base 2 "_law_flat_of" ["lines"] (sp_flat_of K)) : FnG P w K mg base 3 f fd ["flat", "row"] (sp_law_halves K) := by
  refine okG F sc_law_halves (fun h => ?_) (fun cdv B out t0 G ys R E hr hg h => ?_)
  · obtain ⟨v, u, hs, m, rfl, _⟩ := h
    rfl
  · obtain ⟨v, u, hs, m, rfl, hv, F, hu, m63, kk⟩ := h
    refine ⟨_, (pss_one
        (ps_ret (pe_callTy call_tuple_of (by rfl) T.z_tuple (by decide +kernel) (pa_cons (pe_lc (own := [("bit", 2)]) rfl sc_law_halves.nd (pi_tup (pe_tup (pa_cons pe_int (pa_cons pe_int pa_nil)))) (blkOk_by (own := [("bit", 2)]) (N := ["flat", "row", "bit"]) (sc := defScope s_law_halves) (by decide +kernel)) (fun _ _ _ _ _ => (pg_name (i := 2) sc_law_halves.nd rfl (.inl rfl))) (fun _ _ _ _ _ => pts_nil) (fun _ _ _ _ _ => (pe_callC c_law_flat_of (hr.mono (by decide)) hg (by rfl) (pa_cons (pe_op op_cat (pe_callTy (r := rListK K) call_list_of (by rfl) T.z_list (by decide +kernel) (pa_cons (pv 0) pa_nil)) (pe_lst (pa_cons (pe_tup (pa_cons (pv 1) (pa_cons (pv 2) pa_nil))) pa_nil))) pa_nil)))) pa_nil)))), ?_⟩
    obtain ⟨t, us, rfl, htv, hP⟩ := hv
    have lenU : us.length ≤ 63 := by rw [Paired.len hP]; exact canon_len hs
    refine ⟨(by show 2 ≤ sizeLine; decide), fun p0 np0 => ?_⟩
    have s0 := same_new (o := .tup [V.int 0, V.int 1]) np0
    refine ⟨p0, rfl, ⟨_, .inl (.inl upd_same)⟩, fun D hD => ?_⟩
    refine lc_tup (K := K) (a := p0) (xs := [V.int 0, V.int 1]) (fun i H => ∃ zs, H D = some (.lst zs) ∧ Same (upd G p0 (.tup [V.int 0, V.int 1])) H ∧ zs.length = i ∧ ∀ j v, zs[j]? = some v → OptFlat K H v (lflat (canon hs ++ [(m, j)])))
      ⟨[], upd_same, same_new hD, rfl, fun j v h => by simp at h⟩ (fun i H _ ⟨_, _, s, _⟩ => .inl (.inl (s _ _ upd_same))) ?_ ?_
    · rintro i x H hi ⟨zs, eD, s1, lz, hz⟩
      obtain ⟨i2, rfl⟩ : i < 2 ∧ x = V.int (i : Int) := by
        rcases i with _ | _ | i
        · exact ⟨by decide, (Option.some.inj hi).symm⟩
        · exact ⟨by decide, (Option.some.inj hi).symm⟩
        · simp at hi
      have s01 := s0.trans s1
      refine ⟨rfl, _, rfl, t, us, rfl, .inr (sqT_same s01 htv), fun l1 nl1 => ?_⟩
      have s2 := same_new (o := .lst us) nl1
      refine ⟨_, rfl, _, rfl, (by show 2 ≤ sizeLine; decide), fun p1 np1 => ⟨(by show 1 ≤ sizeLine; decide), fun l2 nl2 => ?_⟩⟩
      have s3 := (same_new (o := .tup [u, V.int (i : Int)]) np1).trans (same_new (o := .lst [V.ref p1]) nl2)
      refine ⟨l1, l2, us, [V.ref p1], rfl, rfl, s3 _ _ upd_same, upd_same, ?_, fun l3 nl3 => ?_⟩
      · show us.length + 1 ≤ sizeLine
        exact Nat.le_of_lt (small1000 (by omega))
      have s4 := same_new (o := .lst (us ++ [V.ref p1])) nl3
      have s24 := (s2.trans s3).trans s4
      refine ⟨l3, us ++ [V.ref p1], canon hs ++ [(m, i)], rfl, .inl (.inl upd_same), PySem.Paired.snoc (lines_same (s01.trans s24) hP) ⟨p1, u, rfl, .inl (.inl (s4 _ _ (same_new nl2 _ _ upd_same))), hu.same (s01.trans s24)⟩, canon_snoc_lt F m63 i2, fun H5 v5 s5 hv5 => ?_⟩
      have s25 := s24.trans s5
      have eD5 := s25 _ _ eD
      refine ⟨zs, eD5, small1000 (by omega), zs ++ [v5], upd_same, same_mut (s1.trans s25) hD, by simp [lz], fun j v hj => ?_⟩
      by_cases z : j < zs.length
      · rw [List.getElem?_append_left z] at hj
        exact optFlat_but eD5 But.at_ (optFlat_same s25 (hz j v hj))
      · rw [List.getElem?_append_right (by omega)] at hj
        have jj : j = i := by
          have := (List.getElem?_eq_some_iff.mp hj).1
          simp at this
          omega
        rw [jj, ← lz, Nat.sub_self] at hj
        have hj : v5 = v := Option.some.inj hj
        rw [← hj, jj]
        exact optFlat_but eD5 But.at_ hv5
    · rintro H ⟨zs, eD, s1, lz, hz⟩
      obtain ⟨v0, v1, rfl⟩ : ∃ v0 v1, zs = [v0, v1] := by
        rcases zs with _ | ⟨v0, _ | ⟨v1, _ | ⟨v2, zs⟩⟩⟩
        · cases lz
        · cases lz
        · exact ⟨v0, v1, rfl⟩
        · cases lz
      refine ⟨D, _, rfl, .inl ⟨.inl (.inl eD), fun q nq => ?_⟩⟩
      have s2 := same_new (o := .tup [v0, v1]) nq
      exact kk _ q v0 v1 ((s0.trans s1).trans s2) (s0.free (s1.free nq)) upd_same (optFlat_same s2 (hz 0 v0 rfl)) (optFlat_same s2 (hz 1 v1 rfl))
end
end Es
set_option Elab.async false
set_option linter.all false
set_option maxRecDepth 100000
set_option maxHeartbeats 4000000
namespace Es
open PySem PySem.Spec PyProof.Rows L2
section
variable {P : Program} {w : World} {K : PySem.W.Frag} {mg : Str → Option Value} {base : Heap}
theorem ok_law_told {f : Addr} {fd : FuncData} (F : Fun K "_law_told" "_law_told" s_law_told f fd) (T : Txt mg) (c_law_mask : CalleeOf P w K mg base 1 "_law_mask" ["row"] (sp_law_mask K)) : FnG P w K mg base 2 f fd ["flat", "row"] (sp_law_told K) := by
  refine okG F sc_law_told (fun h => ?_) (fun cdv B out t0 G ys R E hr hg h => ?_)
  · obtain ⟨v, u, hs, m, rfl, _⟩ := h
    rfl
  · obtain ⟨v, u, hs, m, rfl, hv, F, hu, m63, kk⟩ := h
    refine ⟨_, (pss_cons
        (ps_par (i := 2) (j := 3) rfl sc_law_told.nd rfl rfl (by decide) rfl rfl (pa_cons (pe_callC c_law_mask (hr.mono (by decide)) hg (by rfl) (pa_cons (pv 1) pa_nil)) (pa_cons pe_int pa_nil)) (by rfl))
        (pss_cons
        (ps_for PassesOwn.never rfl (pi_tup (pv 0)) (pg_name (i := 4) sc_law_told.nd rfl (.inl rfl))
        (pss_one
          (ps_if (pt_cmpR op_eq (pe_op op_and (pe_op op_shr (pv 2) (pe_ix ix_tup (pe_ix ix_tup (pv 4) pe_int (fun _ _ => rfl)) pe_int (fun _ _ => rfl))) pe_int) pe_int (nomark _))
          (pss_one
            (ps_par (i := 2) (j := 3) rfl sc_law_told.nd rfl rfl (by decide) rfl rfl (pa_cons (pe_op op_xor (pv 2) (pe_callC c_law_mask (hr.mono (by decide)) hg (by rfl) (pa_cons (pe_ix ix_tup (pv 4) pe_int (fun _ _ => rfl)) pa_nil))) (pa_cons (pe_op op_xor (pv 3) (pe_ix ix_tup (pv 4) pe_int (fun _ _ => rfl))) pa_nil)) (by rfl)))
          pss_nil)))
        (pss_one
        (ps_ret (pe_ifExp (pt_cmpR op_eq (pv 2) pe_int (nomark _)) (pv 3) pe_non))))), ?_⟩
    obtain ⟨t, us, rfl, htv, hP⟩ := hv
    refine ⟨_, rfl, u, m, rfl, hu, m63, _, _, rfl, ?_⟩
    have lenU : us.length = (srt (hs.map (·.1))).length := (Paired.len hP).trans (canon_eq_len hs)
    refine ⟨_, rfl, t, rfl, ⟨us, htv⟩, for_tup (K := K) (a := t) (xs := us)
      (fun i σ H => ∃ y4, σ = [some (.ref t), some u, some (.int ((((srt (hs.map (·.1))).take i).foldl (lred1 hs) (m, 0)).1 : Int)), some (.int ((((srt (hs.map (·.1))).take i).foldl (lred1 hs) (m, 0)).2 : Int)), y4] ∧ Same G H)
      ⟨_, rfl, Same.refl _⟩ (fun i σ H _ ⟨_, _, s⟩ => sqT_same s htv) ?_ ?_⟩
    · rintro i x σ H hi ⟨y4, rfl, s1⟩
      obtain ⟨l, hli, hx⟩ := Paired.get hP hi
      obtain ⟨e, he, rfl, hh1⟩ := canon_get F hli
      have hjl := (List.getElem?_eq_some_iff.mp hh1).1
      obtain ⟨tx, rx, rfl, htx, ⟨px, rfl, hpx⟩⟩ := hx
      obtain ⟨tl, htl⟩ := low_cons (F.least e he)
      have eb : iv (bts e.2.1) = .int (e.1 : Int) :: iv tl := by rw [htl]; rfl
      have at0 : atI (iv (bts e.2.1)) 0 = some (.int (e.1 : Int)) := by rw [eb]; exact atI_nat (j := 0) rfl
      have fold1 : ((srt (hs.map (·.1))).take (i + 1)).foldl (lred1 hs) (m, 0) = lred1 hs (((srt (hs.map (·.1))).take i).foldl (lred1 hs) (m, 0)) e.1 := by
        rw [List.take_succ_eq_append_getElem hjl, List.foldl_append, (List.getElem?_eq_some_iff.mp hh1).2]
        rfl
      rw [fold1]
      generalize ((srt (hs.map (·.1))).take i).foldl (lred1 hs) (m, 0) = pr
      have lk := look_of F.red.nd he
      refine ⟨_, rfl, _, rfl, tx, _, 0, _, rfl, rfl, sqT_same s1 htx, atI_nat (j := 0) rfl, px, _, 0, _, rfl, rfl, sqT_same s1 hpx, at0, _, _, rfl, rfl, Int.natCast_nonneg _, _, _, rfl, rfl, rfl, _, rfl, ?_⟩
      have sa1 := shr_and pr.1 e.1
      refine ite2 (fun hc => ?_) (fun hc => ?_)
      · have q : pr.1.testBit e.1 = true := by
          cases q : pr.1.testBit e.1 with
          | true => rfl
          | false =>
            rw [q, if_neg Bool.false_ne_true] at sa1
            have z := V.int.inj (of_decide_eq_true hc)
            rw [sa1] at z
            cases z
        have l1 : lred1 hs pr e.1 = (pr.1 ^^^ e.2.1, pr.2 ^^^ e.2.2) := by
          unfold lred1
          rw [if_pos q, lk]
        refine ⟨_, rfl, _, rfl, tx, _, 0, _, rfl, rfl, sqT_same s1 htx, atI_nat (j := 0) rfl, .ref px, e.2.1, rfl, ⟨px, rfl, sqT_same s1 hpx⟩, (F.red.own e he).2.1, ?_⟩
        refine ⟨_, _, rfl, rfl, _, rfl, _, rfl, tx, _, 1, _, rfl, rfl, sqT_same s1 htx, atI_nat (j := 1) rfl, _, _, rfl, rfl, _, _, rfl, ?_⟩
        rw [l1]
        refine ⟨some (V.ref tx), ?_, s1⟩
        show [some (V.ref t), some u, some (V.int (Builtin.bitXor (pr.1 : Int) (e.2.1 : Int))), some (V.int (Builtin.bitXor (pr.2 : Int) (e.2.2 : Int))), _] = _
        rw [xor_nat, xor_nat]
      · have q : ¬ pr.1.testBit e.1 = true := fun q => by
          rw [q, if_pos rfl] at sa1
          exact hc (decide_eq_true (congrArg V.int sa1))
        have l1 : lred1 hs pr e.1 = pr := by
          unfold lred1
          rw [if_neg q]
        rw [l1]
        exact ⟨some (V.ref tx), rfl, s1⟩
    · rintro σ H ⟨y4, rfl, s1⟩
      rw [lenU, List.take_length]
      have ew : (srt (hs.map (·.1))).foldl (lred1 hs) (m, 0) = wh hs (m, 0) := (wh_lred F.red (m, 0)).symm
      rw [ew]
      have hk := kk H s1
      unfold toldV at hk
      refine ⟨_, rfl, rfl, _, rfl, ite2 (fun hc => ?_) (fun hc => ?_)⟩
      · have z : (wh hs (m, 0)).1 = 0 := by have := V.int.inj (of_decide_eq_true hc); omega
        rw [if_pos z] at hk
        exact ⟨_, rfl, hk⟩
      · have z : ¬ (wh hs (m, 0)).1 = 0 := fun z => hc (decide_eq_true (by rw [z]; rfl))
        rw [if_neg z] at hk
        exact hk
end
end Es
set_option Elab.async false
set_option linter.all false
set_option maxRecDepth 100000
set_option maxHeartbeats 4000000
namespace Es
open PySem PySem.Spec PyProof.Rows L2
section
variable {P : Program} {w : World} {K : PySem.W.Frag} {mg : Str → Option Value} {base : Heap}
theorem ok_law_new_row {f : Addr} {fd : FuncData} (F : Fun K "_law_new_row" "_law_new_row" s_law_new_row f fd) (T : Txt mg) (c_law_any_row : CalleeOf P w K mg base 3 "_law_any_row" ["bag", "many"] (sp_law_any_row K)) (c_law_told : CalleeOf P w K mg base 2 "_law_told" ["flat", "row"] (sp_law_told K)) (c_law_some : CalleeOf P w K mg base 2 "_law_some" ["bag", "things"] (sp_law_some K)) : FnG P w K mg base 4 f fd ["bag", "many", "flat"] (sp_law_new_row K) := by
  refine okG F sc_law_new_row (fun h => ?_) (fun cdv B out t0 G ys R E hr hg h => ?_)
  · obtain ⟨b, c, n, v, hs, rfl, _⟩ := h
    rfl
  · obtain ⟨b, c, n, v, hs, rfl, hB, n62, hv, F, hlt, len, kk⟩ := h
    refine ⟨_, (pss_cons
        (ps_for PassesOwn.never rfl (pi_range1 (by rfl) T.z_range (pa_cons pe_int pa_nil)) (pg_name (i := 3) sc_law_new_row.nd rfl (.inl rfl))
        (pss_cons
          (ps_set (i := 4) sc_law_new_row.nd rfl (Or.inl rfl) (pe_callC c_law_any_row (hr.mono (by decide)) hg (by rfl) (pa_cons (pv 0) (pa_cons (pv 1) pa_nil))))
          (pss_one
          (ps_if (pt_cmpR op_isN (pe_callC c_law_told (hr.mono (by decide)) hg (by rfl) (pa_cons (pv 2) (pa_cons (pv 4) pa_nil))) pe_non (nomark _))
          (pss_one
            (ps_ret (pv 4)))
          pss_nil))))
        (pss_cons
        (ps_set (i := 5) sc_law_new_row.nd rfl (Or.inr rfl) (pe_lc (own := [("line", 6)]) rfl sc_law_new_row.nd (pi_tup (pv 2)) (blkOk_by (own := [("line", 6)]) (N := ["bag", "many", "flat", "turn", "row", "heads", "line", "unknown"]) (sc := defScope s_law_new_row) (by decide +kernel)) (fun _ _ _ _ _ => (pg_name (i := 6) sc_law_new_row.nd rfl (.inl rfl))) (fun _ _ _ _ _ => pts_nil) (fun _ _ _ _ _ => (pe_ix (r := rIxT K) ix_tup (pe_ix (r := rIxT K) ix_tup (pv 6) pe_int (fun _ _ => rfl)) pe_int (fun _ _ => rfl)))))
        (pss_one
        (ps_ret (pe_tup (pa_cons (pe_callC c_law_some (hr.mono (by decide)) hg (by rfl) (pa_cons (pv 0) (pa_cons (pe_lc (own := [("unknown", 7)]) rfl sc_law_new_row.nd (pi_range1 (by rfl) T.z_range (pa_cons (pv 1) pa_nil)) (blkOk_by (own := [("unknown", 7)]) (N := ["bag", "many", "flat", "turn", "row", "heads", "line", "unknown"]) (sc := defScope s_law_new_row) (by decide +kernel)) (fun _ _ _ _ _ => (pg_name (i := 7) sc_law_new_row.nd rfl (.inl rfl))) (fun _ _ _ _ _ => (pts_one (pt_cmpR (r := rIn K true) op_notIn_seq (pv 7) (pv 5) (by rfl)))) (fun _ _ _ _ _ => (pv 7))) pa_nil))) pa_nil)))))), ?_⟩
    obtain ⟨yg, eg⟩ := hB.lst
    refine ⟨5, rfl, by decide, by decide, for_range (lo := 0) (n := 5) (fun i σ H => ∃ y3 y4, σ = [some (.ref b), some (.int (n : Int)), some v, y3, y4, none, none, none] ∧ But b G H ∧ BagAt K H b c)
      ⟨_, _, rfl, But.refl _ _, hB⟩ ?_ ?_⟩
    · rintro i σ H hi ⟨y3, y4, rfl, s1, B1⟩
      refine ⟨_, rfl, _, rfl, b, c, n, rfl, B1, by omega, n62, fun H2 u m s2 B2 hu hm m0 => ?_⟩
      have s12 := s1.trans s2
      have m63 : m < 2 ^ 63 := Nat.lt_of_lt_of_le hm (Nat.pow_le_pow_right (by decide) (by omega))
      refine ⟨_, rfl, _, rfl, v, u, hs, m, rfl, FlatV.bag hB s12 hv, F, hu, m63, fun H3 s3 => ⟨rfl, _, rfl, ite2 (fun hc => ?_) (fun hc => ?_)⟩⟩
      · have nz : (wh hs (m, 0)).1 ≠ 0 := fun z => by
          have hc := of_decide_eq_true hc
          unfold toldV at hc
          rw [if_pos z] at hc
          cases hc
        exact ⟨_, rfl, kk _ u m (s12.trans (But.same s3)) (B2.same s3) (hu.same s3) hm nz⟩
      · exact ⟨_, _, rfl, s12.trans (But.same s3), B2.same s3⟩
    · rintro σ H ⟨y3, y4, rfl, s1, B1⟩
      obtain ⟨t, us, rfl, htv, hP⟩ := FlatV.bag hB s1 hv
      have lenU : us.length = (srt (hs.map (·.1))).length := (Paired.len hP).trans (canon_eq_len hs)
      have lenH : (srt (hs.map (·.1))).length = hs.length := (canon_eq_len hs).symm.trans (flat_len F)
      refine ⟨_, rfl, t, rfl, ⟨us, htv⟩, fun D hD => ?_⟩
      refine lc_tup (K := K) (a := t) (xs := us) (fun i H' => H' D = some (.lst (iv ((srt (hs.map (·.1))).take i))) ∧ Same H H') ⟨upd_same, same_new hD⟩ (fun i H' _ h => sqT_same h.2 htv) ?_ ?_
      · rintro i y H' hi ⟨eD, s2⟩
        obtain ⟨l, hli, hy⟩ := Paired.get hP hi
        obtain ⟨e, he, rfl, hh1⟩ := canon_get F hli
        have hjl := (List.getElem?_eq_some_iff.mp hh1).1
        obtain ⟨tx, rx, rfl, htx, ⟨px, rfl, hpx⟩⟩ := hy
        obtain ⟨tl, htl⟩ := low_cons (F.least e he)
        have eb : iv (bts e.2.1) = .int (e.1 : Int) :: iv tl := by rw [htl]; rfl
        have at0 : atI (iv (bts e.2.1)) 0 = some (.int (e.1 : Int)) := by rw [eb]; exact atI_nat (j := 0) rfl
        refine ⟨rfl, _, rfl, tx, _, 0, _, rfl, rfl, sqT_same s2 htx, atI_nat (j := 0) rfl, px, _, 0, _, rfl, rfl, sqT_same s2 hpx, at0, _, eD, ?_, ?_, same_mut s2 hD⟩
        · rw [iv_len, List.length_take]
          exact small1000 (by omega)
        · rw [upd_same, List.take_succ_eq_append_getElem hjl, (List.getElem?_eq_some_iff.mp hh1).2]
          simp [iv]
      rintro H1 ⟨eD, s2⟩
      rw [lenU, List.take_length] at eD
      have B2 := B1.same s2
      have key : ∀ u : Nat, inV (.int (u : Int)) (iv (srt (hs.map (·.1)))) = decide (u ∈ srt (hs.map (·.1))) := fun u => by
        unfold inV iv
        rw [List.any_map, Bool.eq_iff_iff, List.any_eq_true, decide_eq_true_eq]
        constructor
        · rintro ⟨x, hx, e⟩
          have e : ((x : Int) == (u : Int)) = true := e
          have e : x = u := by have := beq_iff_eq.mp e; omega
          rw [← e]; exact hx
        · intro hx
          exact ⟨u, hx, show ((u : Int) == (u : Int)) = true from beq_iff_eq.mpr rfl⟩
      refine ⟨_, rfl, _, rfl, (n : Int), rfl, by omega, by omega, fun D2 hD2 => ?_⟩
      refine lc_range (lo := 0) (n := n) (fun i H' => H' D2 = some (.lst (iv ((List.range i).filter fun u => decide (u ∉ srt (hs.map (·.1)))))) ∧ Same H1 H') ⟨upd_same, same_new hD2⟩ ?_ ?_
      · rintro i H' hi ⟨eD2, s3⟩
        rw [Int.zero_add]
        have st : (List.range (i + 1)).filter (fun u => decide (u ∉ srt (hs.map (·.1)))) = (List.range i).filter (fun u => decide (u ∉ srt (hs.map (·.1)))) ++ (if i ∉ srt (hs.map (·.1)) then [i] else []) := by
          rw [List.range_succ, List.filter_append]
          congr 1
          by_cases z : i ∈ srt (hs.map (·.1)) <;> simp [z]
        refine ⟨rfl, _, rfl, _, rfl, D, iv (srt (hs.map (·.1))), rfl, .inl (.inl (.inl (s3 _ _ eD))), rfl, flat_iv _, _, rfl, ?_⟩
        rw [key i, st]
        by_cases z : i ∈ srt (hs.map (·.1))
        · rw [decide_eq_true z, if_neg (fun q => q z), List.append_nil]
          exact iteF ⟨eD2, s3⟩
        · rw [decide_eq_false z, if_pos z]
          refine iteT ⟨_, rfl, _, eD2, ?_, ?_, same_mut s3 hD2⟩
          · rw [iv_len]
            have := List.length_filter_le (fun u => decide (u ∉ srt (hs.map (·.1)))) (List.range i)
            rw [List.length_range] at this
            exact small1000 (by omega)
          · rw [upd_same]
            simp [iv]
      rintro H2 ⟨eD2, s3⟩
      obtain ⟨y1, e1⟩ := B2.lst
      obtain ⟨u, un, uno⟩ := st_missing (srt (hs.map (·.1))) n (by rw [lenH]; exact len)
      have mem : u ∈ (List.range n).filter fun u => decide (u ∉ srt (hs.map (·.1))) := List.mem_filter.mpr ⟨List.mem_range.mpr un, decide_eq_true uno⟩
      have lim := List.length_filter_le (fun u => decide (u ∉ srt (hs.map (·.1)))) (List.range n)
      rw [List.length_range] at lim
      refine ⟨b, c, D2, _, rfl, B2.same s3, (ne_of_none e1 hD2).symm, .inl (.inl (.inl eD2)), by rw [iv_len]; exact List.length_pos_of_mem mem, by rw [iv_len]; omega, fun H3 r x s4 B4 hx => ?_⟩
      obtain ⟨h, hh, rfl⟩ := iv_get hx
      have hm := List.mem_filter.mp (List.mem_of_getElem? hh)
      have hn := List.mem_range.mp hm.1
      have hno := of_decide_eq_true hm.2
      refine ⟨by show 1 ≤ sizeLine; decide, fun q nq => ?_⟩
      have s5 := same_new (o := .tup [V.int (h : Int)]) nq
      have p2 : (2 : Nat) ^ h < 2 ^ n := Nat.pow_lt_pow_right (by decide) hn
      have nob : ∀ g ∈ hs.map (·.1), (2 ^ h).testBit g = false := fun g hg => by
        refine Nat.testBit_two_pow_of_ne fun z => hno ?_
        obtain ⟨e, he, rfl⟩ := List.mem_map.mp hg
        exact mem_srt.mpr ⟨by omega, by rw [z]; exact hg⟩
      refine kk _ _ (2 ^ h) (((s1.trans (But.same (s2.trans s3))).trans s4).trans (But.same s5)) (B4.same s5) ⟨q, rfl, .inl (.inl ?_)⟩ p2 (by rw [wh_self nob]; exact Nat.ne_of_gt (Nat.two_pow_pos _))
      rw [bts_pow (by omega)]
      exact upd_same
end
end Es
set_option Elab.async false
set_option linter.all false
set_option maxRecDepth 100000
set_option maxHeartbeats 4000000
namespace Es
open PySem PySem.Spec PyProof.Rows L2
section
variable {P : Program} {w : World} {K : PySem.W.Frag} {mg : Str → Option Value} {base : Heap}
theorem ok_law_cut_up {f : Addr} {fd : FuncData} (F : Fun K "_law_cut_up" "_law_cut_up" s_law_cut_up f fd) (T : Txt mg) (c_law_take : CalleeOf P w K mg base 1 "_law_take" ["bag", "many"] (sp_law_take K)) (c_law_halves : CalleeOf P w K mg base 3 "_law_halves" ["flat", "row"] (sp_law_halves K)) (c_law_new_row : CalleeOf P w K mg base 4 "_law_new_row" ["bag", "many", "flat"] (sp_law_new_row K)) : FnG P w K mg base 5 f fd ["bag", "many", "most"] (sp_law_cut_up K) := by
  refine okG F sc_law_cut_up (fun h => ?_) (fun cdv B out t0 G ys R E hr hg h => ?_)
  · obtain ⟨b, c, n, k, rfl, _⟩ := h
    rfl
  · obtain ⟨b, c, n, k, rfl, hB, n0, n62, k0, k60, kk⟩ := h
    refine ⟨_, (pss_cons
        (ps_set (i := 3) sc_law_cut_up.nd rfl (Or.inl rfl) (pe_lst (pa_cons (pe_tup pa_nil) pa_nil)))
        (pss_cons
        (ps_for PassesOwn.never rfl (pi_range1 (by rfl) T.z_range (pa_cons (pe_callC c_law_take (hr.mono (by decide)) hg (by rfl) (pa_cons (pv 0) (pa_cons (pv 2) pa_nil))) pa_nil)) (pg_name (i := 4) sc_law_cut_up.nd rfl (.inl rfl))
        (pss_cons
          (ps_set (i := 5) sc_law_cut_up.nd rfl (Or.inl rfl) (pe_callC c_law_take (hr.mono (by decide)) hg (by rfl) (pa_cons (pv 0) (pa_cons (pe_callB call_len_seq (by rfl) T.z_len (by decide +kernel) (pa_cons (pv 3) pa_nil)) pa_nil))))
          (pss_one
          (ps_if (pt_cmpR op_lt (pe_callB call_len_seq (by rfl) T.z_len (by decide +kernel) (pa_cons (pe_ix ix_list (pv 3) (pv 5) (fun _ _ => rfl)) pa_nil)) (pe_callB (call_min2 rfl) (by rfl) T.z_min (by decide +kernel) (pa_cons (pv 1) (pa_cons pe_int pa_nil))) (nomark _))
          (pss_cons
            (ps_set (i := 6) sc_law_cut_up.nd rfl (Or.inl rfl) (pe_callC c_law_halves (hr.mono (by decide)) hg (by rfl) (pa_cons (pe_ix ix_list (pv 3) (pv 5) (fun _ _ => rfl)) (pa_cons (pe_callC c_law_new_row (hr.mono (by decide)) hg (by rfl) (pa_cons (pv 0) (pa_cons (pv 1) (pa_cons (pe_ix ix_list (pv 3) (pv 5) (fun _ _ => rfl)) pa_nil)))) pa_nil))))
            (pss_one
            (ps_asg (pe_callTy call_list_of (by rfl) T.z_list (by decide +kernel) (pa_cons (pv 6) pa_nil)) (pg_cutIn (pv 3) (po_some (pv 5)) (po_some (pe_op op_add (pv 5) pe_int))))))
          pss_nil))))
        (pss_one
        (ps_ret (pv 3))))), ?_⟩
    obtain ⟨yg, eg⟩ := hB.lst
    refine ⟨(by show 0 ≤ sizeLine; decide), fun t0 ht0 => ⟨(by show 1 ≤ sizeLine; decide), fun f0 hf0 => ?_⟩⟩
    have s2 := (same_new (o := .tup []) ht0).trans (same_new (o := .lst [V.ref t0]) hf0)
    have et2 := (same_new (o := .lst [V.ref t0]) hf0) _ _ (upd_same (H := G) (a := t0) (o := .tup []))
    have ef2 := upd_same (H := upd G t0 (.tup [])) (a := f0) (o := .lst [V.ref t0])
    have nf : G f0 = none := (same_new (o := .tup []) ht0).free hf0
    have nfb : f0 ≠ b := (ne_of_none eg nf).symm
    generalize upd (upd G t0 (.tup [])) f0 (.lst [V.ref t0]) = H2 at s2 et2 ef2 ⊢
    refine ⟨_, rfl, _, rfl, b, c, k, rfl, hB.same s2, k0, by omega, fun H3 q s3 B3 hq => ?_⟩
    obtain ⟨y2, e2⟩ := (hB.same s2).lst
    have h0 : FlatV K H3 (.ref t0) [] := ⟨t0, [], rfl, sqT_but e2 s3 (.inl (.inl et2)), by rw [canon_none]; exact .nil⟩
    refine ⟨(q : Int), rfl, by omega, by omega, for_range (lo := 0) (n := q) (fun i σ H => ∃ us fs y4 y5 y6, σ = [some (.ref b), some (.int (n : Int)), some (.int (k : Int)), some (.ref f0), y4, y5, y6] ∧ But b G H ∧ BagAt K H b c ∧ H f0 = some (.lst us) ∧ Paired (FlatV K H) us fs ∧ (∀ hs ∈ fs, (FlatOk hs ∧ ∀ e ∈ hs, e.2.1 < 2 ^ n) ∧ hs.length ≤ 6) ∧ us.length ≤ i + 1 ∧ 0 < us.length)
      ⟨[V.ref t0], [[]], _, _, _, rfl, (But.same s2).trans s3, B3, s3 _ _ nfb ef2, .cons h0 .nil, (fun hs h => by
        have h : hs = [] := by simpa using h
        rw [h]
        exact ⟨⟨flat_nil, fun e he => by cases he⟩, Nat.zero_le _⟩), Nat.le_refl _, Nat.one_pos⟩ ?_ ?_⟩
    · rintro i σ H hi ⟨us, fs, y4, y5, y6, rfl, s4, B4, el4, P4, ok, lu, l0⟩
      obtain ⟨y4', e4⟩ := B4.lst
      refine ⟨_, rfl, _, rfl, f0, us, rfl, .inl (.inl (.inl el4)), b, c, us.length, rfl, B4, l0, by omega, fun H5 j s5 B5 hj => ?_⟩
      have el5 := s5 _ _ nfb el4
      have P5 := Paired.mono2 (fun _ _ h => FlatV.but e4 s5 h) P4
      have lP := Paired.len P5
      obtain ⟨hs, hh, hv⟩ := Paired.get P5 (List.getElem?_eq_getElem hj)
      obtain ⟨⟨F, hlt⟩, _⟩ := ok hs (List.mem_of_getElem? hh)
      have gj : us[j]? = some us[j] := List.getElem?_eq_getElem hj
      generalize us[j] = vj at hv gj
      have hv0 := hv
      obtain ⟨tv, uv, rfl, htv, hPv⟩ := hv
      have luv := Paired.len hPv
      rw [flat_len F] at luv
      refine ⟨_, rfl, _, rfl, f0, us, _, .ref tv, rfl, rfl, .inl (.inl el5), atI_nat gj, tv, uv, rfl, .inr htv, _, rfl, _, _, rfl, _, _, rfl, rfl, _, rfl, ite2 (fun hc => ?_) (fun _ => ?_)⟩
      · have hc := of_decide_eq_true hc
        have hln : hs.length < n ∧ hs.length < 6 := by
          rw [luv] at hc
          split at hc <;> omega
        obtain ⟨y5', e5⟩ := B5.lst
        refine ⟨_, rfl, _, rfl, f0, us, _, .ref tv, rfl, rfl, .inl (.inl el5), atI_nat gj, _, rfl, _, rfl, _, rfl, _, rfl, f0, us, _, .ref tv, rfl, rfl, .inl (.inl el5), atI_nat gj, b, c, n, .ref tv, hs, rfl, B5, n62, hv0, F, hlt, hln.1, fun H6 u m s6 B6 hu hm nz => ?_⟩
        have hv6 := hv0.but e5 s6
        have el6 := s6 _ _ nfb el5
        have P6 := Paired.mono2 (fun _ _ h => FlatV.but e5 s6 h) P5
        refine ⟨.ref tv, u, hs, m, rfl, hv6, F, hu, Nat.lt_of_lt_of_le hm (Nat.pow_le_pow_right (by decide) (by omega)), fun H7 p v0 v1 s7 np ep g0 g1 => ?_⟩
        obtain ⟨hs0, q0, F0, lt0, _⟩ := half_is F n62 hlt hm (b := 0) (by decide) nz
        obtain ⟨hs1, q1, F1, lt1, _⟩ := half_is F n62 hlt hm (b := 1) (by decide) nz
        have m63 : m < 2 ^ 63 := Nat.lt_of_lt_of_le hm (Nat.pow_le_pow_right (by decide) (by omega))
        have n0' := lflat_len _ (canon_snoc_lt F m63 (b := 0) (by decide)) hs0 q0
        have n1' := lflat_len _ (canon_snoc_lt F m63 (b := 1) (by decide)) hs1 q1
        rw [List.length_append, flat_len F] at n0' n1'
        have n0' : hs0.length ≤ hs.length + 1 := n0'
        have n1' : hs1.length ≤ hs.length + 1 := n1'
        rw [q0] at g0
        rw [q1] at g1
        have g0 : FlatV K H7 v0 hs0 := g0
        have g1 : FlatV K H7 v1 hs1 := g1
        refine ⟨_, rfl, p, [v0, v1], rfl, .inr (.inl (.inl ep)), fun l nl => ?_⟩
        have sl := same_new (o := .lst [v0, v1]) nl
        have el8 := sl _ _ (s7 _ _ el6)
        have nfl : f0 ≠ l := ne_of_none (s7 _ _ el6) nl
        refine ⟨_, rfl, _, rfl, _, rfl, _, rfl, _, _, rfl, rfl, _, rfl, f0, l, us, [v0, v1], j, j + 1, rfl, rfl, rfl, rfl, el8, upd_same, nfl, by omega, by omega, Nat.le_of_lt (small1000 (by show us.length + 2 ≤ 1000; omega)), ?_⟩
        refine ⟨us.take j ++ [v0, v1] ++ us.drop (j + 1), fs.take j ++ [hs0, hs1] ++ fs.drop (j + 1), _, _, _, rfl, but_mut (((s4.trans s5).trans s6).trans (But.same (s7.trans sl))) nf, BagAt.mut hB nf (B6.same (s7.trans sl)), upd_same, ?_, ?_, ?_, ?_⟩
        · have mv : ∀ {x : V} {y : List (Nat × Nat × Nat)}, FlatV K H7 x y → FlatV K (upd (upd H7 l (.lst [v0, v1])) f0 (.lst (us.take j ++ [v0, v1] ++ us.drop (j + 1)))) x y := fun h => FlatV.but el8 But.at_ (FlatV.same sl h)
          have P8 := Paired.mono2 (fun _ _ h => mv (FlatV.same s7 h)) P6
          exact paired_append (paired_append (paired_take j P8) (.cons (mv g0) (.cons (mv g1) .nil))) (paired_drop2 (j + 1) P8)
        · intro x h
          rcases List.mem_append.mp h with h | h
          · rcases List.mem_append.mp h with h | h
            · exact ok x (List.mem_of_mem_take h)
            · rcases List.mem_cons.mp h with rfl | h
              · exact ⟨⟨F0, lt0⟩, by omega⟩
              · have h : x = hs1 := by simpa using h
                rw [h]
                exact ⟨⟨F1, lt1⟩, by omega⟩
          · exact ok x (List.mem_of_mem_drop h)
        · rw [List.length_append, List.length_append, List.length_take, List.length_drop]
          show min j us.length + 2 + (us.length - (j + 1)) ≤ i + 1 + 1
          omega
        · rw [List.length_append, List.length_append]
          show 0 < (us.take j).length + 2 + _
          omega
      · exact ⟨us, fs, _, _, _, rfl, s4.trans s5, B5, el5, P5, ok, by omega, l0⟩
    · rintro σ H ⟨us, fs, y4, y5, y6, rfl, s4, B4, el4, P4, ok, lu, l0⟩
      exact ⟨_, rfl, kk _ f0 us fs s4 B4 nf nfb el4 P4 ok (by omega) l0⟩
end
end Es
set_option Elab.async false
set_option linter.all false
set_option maxRecDepth 100000
set_option maxHeartbeats 4000000
namespace Es
open PySem PySem.Spec PyProof.Rows L2
section
variable {P : Program} {w : World} {K : PySem.W.Frag} {mg : Str → Option Value} {base : Heap}
theorem ok_law_wider {f : Addr} {fd : FuncData} (F : Fun K "_law_wider" "_law_wider" s_law_wider f fd) (T : Txt mg) (c_law_take : CalleeOf P w K mg base 1 "_law_take" ["bag", "many"] (sp_law_take K)) : FnG P w K mg base 2 f fd ["bag", "flat"] (sp_law_wider K) := by
  refine okG F sc_law_wider (fun h => ?_) (fun cdv B out t0 G ys R E hr hg h => ?_)
  · obtain ⟨b, c, v, hs, rfl, _⟩ := h
    rfl
  · obtain ⟨b, c, v, hs, rfl, hB, hv, F, kk⟩ := h
    refine ⟨_, (pss_one
        (ps_ret (pe_callTy call_tuple_of (by rfl) T.z_tuple (by decide +kernel) (pa_cons (pe_lc (own := [("line", 2)]) rfl sc_law_wider.nd (pi_tup (pv 1)) (blkOk_by (own := [("line", 2)]) (N := ["bag", "flat", "line"]) (sc := defScope s_law_wider) (by decide +kernel)) (fun _ _ _ _ _ => (pg_name (i := 2) sc_law_wider.nd rfl (.inl rfl))) (fun _ _ _ _ _ => (pts_one (pt_cmpR op_gt (pe_callC c_law_take (hr.mono (by decide)) hg (by rfl) (pa_cons (pv 0) (pa_cons pe_int pa_nil))) pe_int (nomark _)))) (fun _ _ _ _ _ => (pv 2))) pa_nil)))), ?_⟩
    obtain ⟨t, us, rfl, ht, hP⟩ := hv
    obtain ⟨yg, eg⟩ := hB.lst
    refine ⟨_, rfl, t, rfl, ⟨us, ht⟩, fun D hD => ?_⟩
    have nDb : D ≠ b := (ne_of_none eg hD).symm
    have lenP : us.length = (byHead hs).length := by
      have := Paired.len hP
      unfold canon at this
      rwa [List.length_map] at this
    have l63 : (byHead hs).length ≤ 63 := by
      have := canon_len hs
      unfold canon at this
      rwa [List.length_map] at this
    refine lc_tup (K := K) (a := t) (xs := us) (fun i H => ∃ zs gs, H D = some (.lst zs) ∧ But b G H ∧ BagAt K H b c ∧ Paired (LineV K H) zs (gs.map (·.2)) ∧ gs.Sublist ((byHead hs).take i))
      ⟨[], [], upd_same, But.new hD, hB.same (same_new hD), .nil, List.Sublist.refl _⟩ (fun i H _ ⟨_, _, _, s, _⟩ => sqT_bag hB s ht) ?_ ?_
    · rintro i x H hi ⟨zs, gs, eD, s1, B1, hz, sub⟩
      obtain ⟨l, hli, hx⟩ := Paired.get hP hi
      unfold canon at hli
      rw [List.getElem?_map] at hli
      obtain ⟨e, he, rfl⟩ := Option.map_eq_some_iff.mp hli
      have hil := (List.getElem?_eq_some_iff.mp he).1
      have tk : (byHead hs).take (i + 1) = (byHead hs).take i ++ [e] := by
        rw [List.take_succ_eq_append_getElem hil, (List.getElem?_eq_some_iff.mp he).2]
      have lz : zs.length ≤ i := by
        have h1 := Paired.len hz
        have h2 := sub.length_le
        rw [List.length_map] at h1
        rw [List.length_take] at h2
        omega
      refine ⟨rfl, _, rfl, b, c, 5, rfl, B1, by decide, by decide, fun H2 r s2 B2 hr2 => ?_⟩
      have eD2 := s2 D _ nDb eD
      have hz2 : Paired (LineV K H2) zs (gs.map (·.2)) := by
        obtain ⟨yb, eb⟩ := B1.lst
        exact lines_but eb s2 hz
      refine ⟨_, _, rfl, rfl, _, rfl, ite2 (fun _ => ?_) (fun _ => ⟨zs, gs, eD2, s1.trans s2, B2, hz2, by rw [tk]; exact sub.trans (List.sublist_append_left _ _)⟩)⟩
      have hx2 : LineV K H2 x e.2 := LineV.but eg (s1.trans s2) hx
      refine ⟨_, rfl, zs, eD2, small1000 (by omega), zs ++ [x], gs ++ [e], upd_same, but_mut (s1.trans s2) hD, BagAt.mut hB hD B2, ?_, ?_⟩
      · rw [List.map_append]
        exact PySem.Paired.snoc (lines_but eD2 But.at_ hz2) (LineV.but eD2 But.at_ hx2)
      · rw [tk]
        exact sub.append (List.Sublist.refl _)
    · rintro H ⟨zs, gs, eD, s1, B1, hz, sub⟩
      rw [lenP, List.take_length] at sub
      obtain ⟨FG, eC, mem⟩ := part_flat F sub
      refine ⟨D, zs, rfl, .inl ⟨.inl (.inl eD), fun q nq => ?_⟩⟩
      have s2 := same_new (o := .tup zs) nq
      exact kk _ _ gs (s1.trans (But.same s2)) (B1.same s2) ⟨q, zs, rfl, .inl (.inl upd_same), by rw [eC]; exact lines_same s2 hz⟩ FG mem
end
end Es
set_option Elab.async false
set_option linter.all false
set_option maxRecDepth 100000
set_option maxHeartbeats 4000000
namespace Es
open PySem PySem.Spec PyProof.Rows L2
section
variable {P : Program} {w : World} {K : PySem.W.Frag} {mg : Str → Option Value} {base : Heap}
theorem ok_law_spoken {f : Addr} {fd : FuncData} (F : Fun K "_law_spoken" "_law_spoken" s_law_spoken f fd) (T : Txt mg) (c_law_mask : CalleeOf P w K mg base 1 "_law_mask" ["row"] (sp_law_mask K)) (c_law_take : CalleeOf P w K mg base 1 "_law_take" ["bag", "many"] (sp_law_take K)) (c_law_mixed : CalleeOf P w K mg base 2 "_law_mixed" ["bag", "things"] (sp_law_mixed K)) (c_law_row : CalleeOf P w K mg base 1 "_law_row" ["mask"] (sp_law_row K)) : FnG P w K mg base 3 f fd ["bag", "flat"] (sp_law_spokenZ K) := by
  refine okG F sc_law_spoken (fun h => ?_) (fun cdv B out t0 G ys R E hr hg h => ?_)
  · obtain ⟨b, c, v, n, ls, rfl, _⟩ := h
    rfl
  · obtain ⟨b, c, v, n, ls, rfl, hB, ⟨t, us, rfl, ht, hP⟩, hl, sv, l12, n62, kk⟩ := h
    refine ⟨_, (pss_cons
        (ps_setLc (i := 2) (own := [("row", 3), ("bit", 4)]) (g := (gTup K 2 (gCons (gName 3) (gCons (gName 4) gNil)))) rfl sc_law_spoken.nd rfl rfl (sw_true rfl rfl rfl (by decide +kernel)) (pi_tup (pv 1)) (blkOk_by (own := [("row", 3), ("bit", 4)]) (N := ["bag", "flat", "lines", "row", "bit", "turn", "one", "other", "mask"]) (sc := defScope s_law_spoken) (by decide +kernel)) (fun _ _ _ _ _ => (pg_tup (by rfl) (pgs_cons (pg_name (i := 3) sc_law_spoken.nd rfl (.inl rfl)) (pgs_cons (pg_name (i := 4) sc_law_spoken.nd rfl (.inl rfl)) pgs_nil)))) (fun _ _ _ _ _ => pts_nil) (fun _ _ _ _ _ => (pe_tup (pa_cons (pe_callC c_law_mask (hr.mono (by decide)) hg (by rfl) (pa_cons (pv 3) pa_nil)) (pa_cons (pv 4) pa_nil)))))
        (pss_cons
        (ps_for PassesOwn.never rfl (pi_range1 (by rfl) T.z_range (pa_cons (pe_via (pe_ifExp (pt_cmpR op_gt (pe_callB call_len_seq (by rfl) T.z_len (by decide +kernel) (pa_cons (pv 2) pa_nil)) pe_int (nomark _)) (pe_callC c_law_take (hr.mono (by decide)) hg (by rfl) (pa_cons (pv 0) (pa_cons pe_int pa_nil))) pe_int)) pa_nil)) (pg_name (i := 5) sc_law_spoken.nd rfl (.inl rfl))
        (pss_cons
          (ps_asg (pe_slice sl_list (pe_callC c_law_mixed (hr.mono (by decide)) hg (by rfl) (pa_cons (pv 0) (pa_cons (pe_listRg rfl (by rfl) T.z_list (prg_1 (by rfl) T.z_range (pe_callB call_len_seq (by rfl) T.z_len (by decide +kernel) (pa_cons (pv 2) pa_nil)))) pa_nil))) po_none (po_some pe_int)) (pg_lst (by rfl) (pgs_cons (pg_name (i := 6) sc_law_spoken.nd rfl (.inl rfl)) (pgs_cons (pg_name (i := 7) sc_law_spoken.nd rfl (.inl rfl)) pgs_nil))))
          (pss_one
          (ps_asg (pe_tup (pa_cons (pe_op op_xor (pe_ix ix_tup (pe_ix ix_list (pv 2) (pv 6) (fun _ _ => rfl)) pe_int (fun _ _ => rfl)) (pe_ix ix_tup (pe_ix ix_list (pv 2) (pv 7) (fun _ _ => rfl)) pe_int (fun _ _ => rfl))) (pa_cons (pe_op op_xor (pe_ix ix_tup (pe_ix ix_list (pv 2) (pv 6) (fun _ _ => rfl)) pe_int (fun _ _ => rfl)) (pe_ix ix_tup (pe_ix ix_list (pv 2) (pv 7) (fun _ _ => rfl)) pe_int (fun _ _ => rfl))) pa_nil))) (pg_sub (pv 2) (pv 6) set_list)))))
        (Evl.pss_cut
        (ps_if (PW.pt (pw_and (pt_cmpR op_gt (pe_callB call_len_seq (by rfl) T.z_len (by decide +kernel) (pa_cons (pv 2) pa_nil)) pe_int (nomark _)) (pw_and (pt_cmpR op_lt (pe_callB call_len_seq (by rfl) T.z_len (by decide +kernel) (pa_cons (pv 2) pa_nil)) pe_int (nomark _)) (pw_and1 (pt_cmpR op_eq (pe_callC c_law_take (hr.mono (by decide)) hg (by rfl) (pa_cons (pv 0) (pa_cons pe_int pa_nil))) pe_int (nomark _))))))
        (pss_one
          (ps_expr (pe_bm PySem.F.plainAttrs_list PySem.F.slot_list_append PySem.F.type_list_append mt_append (pv 2) (pa_cons (pe_tup (pa_cons (pe_op op_xor (pe_ix ix_tup (pe_ix ix_list (pv 2) pe_int (fun _ _ => rfl)) pe_int (fun _ _ => rfl)) (pe_ix ix_tup (pe_ix ix_list (pv 2) pe_int (fun _ _ => rfl)) pe_int (fun _ _ => rfl))) (pa_cons (pe_op op_xor (pe_ix ix_tup (pe_ix ix_list (pv 2) pe_int (fun _ _ => rfl)) pe_int (fun _ _ => rfl)) (pe_ix ix_tup (pe_ix ix_list (pv 2) pe_int (fun _ _ => rfl)) pe_int (fun _ _ => rfl))) pa_nil))) pa_nil))))
        pss_nil)
        (pss_one
        (ps_ret (pe_callTy call_tuple_of (by rfl) T.z_tuple (by decide +kernel) (pa_cons (pe_callB (cr_sortedData hr.units) (by rfl) T.z_sorted (by decide +kernel) (pa_cons (pe_lc (own := [("mask", 8), ("bit", 4)]) (g := (gTup K 2 (gCons (gName 8) (gCons (gName 4) gNil)))) rfl sc_law_spoken.nd (pi_list (pv 2)) (blkOk_by (own := [("mask", 8), ("bit", 4)]) (N := ["bag", "flat", "lines", "row", "bit", "turn", "one", "other", "mask"]) (sc := defScope s_law_spoken) (by decide +kernel)) (fun _ _ _ _ _ => (pg_tup (by rfl) (pgs_cons (pg_name (i := 8) sc_law_spoken.nd rfl (.inl rfl)) (pgs_cons (pg_name (i := 4) sc_law_spoken.nd rfl (.inl rfl)) pgs_nil)))) (fun _ _ _ _ _ => pts_nil) (fun _ _ _ _ _ => (pe_tup (pa_cons (pe_callC c_law_row (hr.mono (by decide)) hg (by rfl) (pa_cons (pv 8) pa_nil)) (pa_cons (pe_op op_sub pe_int (pv 4)) pa_nil))))) pa_nil)) pa_nil))))))), ?_⟩
    have w63 : ∀ x, x < 2 ^ n → x < 2 ^ 63 := fun x h => Nat.lt_of_lt_of_le h (Nat.pow_le_pow_right (by decide) (by omega))
    obtain ⟨yg, eg⟩ := hB.lst
    have lP := Paired.len hP
    refine ⟨_, rfl, t, rfl, ⟨us, ht⟩, fun D hD => ?_⟩
    have nDb : D ≠ b := (ne_of_none eg hD).symm
    refine lc_tup (K := K) (a := t) (xs := us) (fun j H' => ∃ zs, H' D = some (.lst zs) ∧ Same G H' ∧ Paired (PairI K H') zs (ls.take j)) ⟨[], upd_same, same_new hD, .nil⟩ (fun j H' _ ⟨_, _, s, _⟩ => sqT_same s ht) ?_ ?_
    · rintro j x H' hj ⟨zs, eD, s, hz⟩
      obtain ⟨l, hl', hx⟩ := Paired.get hP hj
      obtain ⟨tv, r, rfl, htv, hr⟩ := hx
      have hjl := (List.getElem?_eq_some_iff.mp hl').1
      have lz := Paired.len hz
      rw [List.length_take] at lz
      refine ⟨tv, _, rfl, sqT_same s htv, rfl, r, _, rfl, _, [], rfl, rfl, rfl, _, rfl, r, l.1, rfl, hr.same s, w63 _ (hl l (List.mem_of_getElem? hl')).1, _, rfl, (by show 2 ≤ sizeLine; decide), fun q hq => ?_⟩
      have sq := same_new (o := .tup [V.int (l.1 : Int), V.int (l.2 : Int)]) hq
      have eDq := sq _ _ eD
      refine ⟨zs, eDq, small1000 (by omega), zs ++ [V.ref q], upd_same, same_mut (s.trans sq) hD, ?_⟩
      rw [List.take_succ_eq_append_getElem hjl, (List.getElem?_eq_some_iff.mp hl').2]
      exact PySem.Paired.snoc (Paired.mono2 (fun _ _ h => PairI.but eDq But.at_ (PairI.same sq h)) hz) (PairI.but eDq But.at_ ⟨q, rfl, .inl (.inl upd_same)⟩)
    rintro H1 ⟨zs0, eD, s1, hz0⟩
    rw [lP, List.take_length] at hz0
    have lz0 := Paired.len hz0
    have B1 := hB.same s1
    obtain ⟨y1, e1⟩ := B1.lst
    refine ⟨fun v H => ∃ q : Nat, v = .int (q : Int) ∧ q ≤ 3 ∧ (0 < q → 1 < zs0.length) ∧ But b G H ∧ BagAt K H b c ∧ H D = some (.lst zs0) ∧ Paired (PairI K H) zs0 ls, ?_, ?_⟩
    · refine ⟨_, rfl, D, zs0, rfl, .inl (.inl (.inl eD)), _, _, rfl, rfl, _, rfl, ite2 (fun hc => ?_) (fun _ => ⟨0, rfl, Nat.zero_le _, (fun h => absurd h (by decide)), But.same s1, B1, eD, hz0⟩)⟩
      have hc := of_decide_eq_true hc
      exact ⟨_, rfl, b, c, 4, rfl, B1, by decide, by decide, fun H2 r s2 B2 hr => ⟨r, rfl, by omega, (fun _ => by omega), (But.same s1).trans s2, B2, s2 _ _ nDb eD, Paired.mono2 (fun _ _ h => PairI.but e1 s2 h) hz0⟩⟩
    rintro v H2 ⟨q, rfl, hq, hq1, s2, B2, eD2, hz2⟩
    refine ⟨(q : Int), rfl, by omega, by omega, for_range (lo := 0) (n := q) (fun i σ H => ∃ zs ps y5 y6 y7, σ = [some (.ref b), some (.ref t), some (.ref D), none, none, y5, y6, y7, none] ∧ But b G H ∧ BagAt K H b c ∧ H D = some (.lst zs) ∧ Paired (PairI K H) zs ps ∧ (∀ p ∈ ps, p.1 < 2 ^ n ∧ p.2 < 2) ∧ zs.length = zs0.length ∧ Solv (ps.map (·.1)))
      ⟨zs0, ls, _, _, _, rfl, s2, B2, eD2, hz2, hl, rfl, sv⟩ ?_ ?_⟩
    · rintro i σ H hi ⟨zs, ps, y5, y6, y7, rfl, s, Bs, eZ, hz, ok, lz, svi⟩
      have l2 := hq1 (by omega)
      obtain ⟨ys0, es0⟩ := Bs.lst
      refine ⟨_, rfl, _, rfl, D, zs, rfl, .inl (.inl (.inl eZ)), _, rfl, RgOk.of_le (by omega) (by omega) (by omega) (by omega), fun q0 nq0 => ?_⟩
      have sq := same_new (o := .lst (rgV 0 (zs.length : Int))) nq0
      refine ⟨b, c, q0, _, rfl, Bs.same sq, (ne_of_none es0 nq0).symm, .inl (.inl (.inl upd_same)), by rw [rgV_length]; omega, fun H3 p ys s3 B3 np npb ep perm => ?_⟩
      have lys := perm.length_eq
      rw [rgV_length] at lys
      obtain ⟨x0, x1, r, rfl⟩ : ∃ x0 x1 r, ys = x0 :: x1 :: r := by
        rcases ys with _ | ⟨a, _ | ⟨b, r⟩⟩
        · rw [List.length_nil] at lys
          omega
        · rw [List.length_cons, List.length_nil] at lys
          omega
        · exact ⟨a, b, r, rfl⟩
      obtain ⟨i0, h0, rfl⟩ := rg_mem (perm.mem_iff.mp (List.mem_cons_self))
      obtain ⟨i1, h1, rfl⟩ := rg_mem (perm.mem_iff.mp (List.mem_cons_of_mem _ List.mem_cons_self))
      refine ⟨_, rfl, p, _, rfl, .inl (.inl ep), fun p2 np2 => ⟨p2, _, rfl, .inl (.inl upd_same), by rw [cut_two]; rfl, V.int (i0 : Int), [V.int (i1 : Int)], cut_two _ _ _, V.int (i1 : Int), [], rfl, rfl, ?_⟩⟩
      have sp := same_new (o := .lst (cutV (V.int (i0 : Int) :: V.int (i1 : Int) :: r) none (some 2))) np2
      obtain ⟨yq, eq0⟩ := (Bs.same sq).lst
      have eZ3 := sp _ _ (s3 _ _ nDb (sq _ _ eZ))
      have hz3 := Paired.mono2 (fun _ _ h => PairI.same sp (PairI.but eq0 s3 (PairI.same sq h))) hz
      have B4 := B3.same sp
      have sG := ((s.trans (But.same sq)).trans s3).trans (But.same sp)
      generalize upd H3 p2 (.lst (cutV (V.int (i0 : Int) :: V.int (i1 : Int) :: r) none (some 2))) = H4 at eZ3 hz3 B4 sG ⊢
      obtain ⟨p0, hp0, hv0⟩ := Paired.get hz3 (List.getElem?_eq_getElem h0)
      obtain ⟨p1, hp1, hv1⟩ := Paired.get hz3 (List.getElem?_eq_getElem h1)
      have g0 : zs[i0]? = some zs[i0] := List.getElem?_eq_getElem h0
      have g1 : zs[i1]? = some zs[i1] := List.getElem?_eq_getElem h1
      generalize zs[i0] = z0 at hv0 g0
      generalize zs[i1] = z1 at hv1 g1
      obtain ⟨t0', rfl, ht0⟩ := hv0
      obtain ⟨t1', rfl, ht1⟩ := hv1
      refine ⟨_, rfl, _, rfl, D, zs, _, .ref t0', rfl, rfl, .inl (.inl eZ3), atI_nat g0, t0', _, 0, _, rfl, rfl, ht0, atI_nat (j := 0) rfl, _, rfl, _, rfl, D, zs, _, .ref t1', rfl, rfl, .inl (.inl eZ3), atI_nat g1, t1', _, 0, _, rfl, rfl, ht1, atI_nat (j := 0) rfl, _, _, rfl, rfl, ?_⟩
      refine ⟨_, rfl, _, rfl, D, zs, _, .ref t0', rfl, rfl, .inl (.inl eZ3), atI_nat g0, t0', _, 1, _, rfl, rfl, ht0, atI_nat (j := 1) rfl, _, rfl, _, rfl, D, zs, _, .ref t1', rfl, rfl, .inl (.inl eZ3), atI_nat g1, t1', _, 1, _, rfl, rfl, ht1, atI_nat (j := 1) rfl, _, _, rfl, rfl, (by show 2 ≤ sizeLine; decide), fun q5 nq5 => ?_⟩
      have st := same_new (o := .tup [V.int (Builtin.bitXor (p0.1 : Int) (p1.1 : Int)), V.int (Builtin.bitXor (p0.2 : Int) (p1.2 : Int))]) nq5
      have hn : PairI K (upd H4 q5 (.tup [V.int (Builtin.bitXor (p0.1 : Int) (p1.1 : Int)), V.int (Builtin.bitXor (p0.2 : Int) (p1.2 : Int))])) (.ref q5) (p0.1 ^^^ p1.1, p0.2 ^^^ p1.2) := by
        refine ⟨q5, rfl, .inl (.inl ?_)⟩
        rw [upd_same, xor_nat, xor_nat]
      have eZ5 := st _ _ eZ3
      obtain ⟨o0, o0'⟩ := ok p0 (List.mem_of_getElem? hp0)
      obtain ⟨o1, o1'⟩ := ok p1 (List.mem_of_getElem? hp1)
      refine ⟨_, rfl, _, rfl, D, zs, _, i0, rfl, rfl, eZ5, ixN_nat h0, zs.set i0 (.ref q5), ps.set i0 (p0.1 ^^^ p1.1, p0.2 ^^^ p1.2), _, _, _, rfl, but_mut (sG.trans (But.same st)) hD, BagAt.mut hB hD (B4.same st), upd_same, ?_, ?_, by rw [List.length_set]; exact lz, ?_⟩
      · exact paired_set (PairI.but eZ5 But.at_ hn) i0 (Paired.mono2 (fun _ _ h => PairI.but eZ5 But.at_ (PairI.same st h)) hz3)
      · intro x h
        rcases List.mem_or_eq_of_mem_set h with h | h
        · exact ok x h
        · rw [h]
          exact ⟨Nat.xor_lt_two_pow o0 o1, bit_xor o0' o1'⟩
      · rw [List.map_set]
        refine svi.set (j := i1) (by rw [List.getElem?_map, hp0]; rfl) (by rw [List.getElem?_map, hp1]; rfl) ?_
        have nd := perm.nodup_iff.mpr (rgV_nodup zs.length)
        intro z
        rw [z] at nd
        exact (List.nodup_cons.mp nd).1 List.mem_cons_self
    rintro σ H ⟨zs, ps, y5, y6, y7, rfl, s, Bs, eZ, hz, ok, lz, svi⟩
    have ok1 : ∀ p ∈ ps, p.1 < 2 ^ n ∧ p.1 ≠ 0 ∧ p.2 < 2 := fun p hp => ⟨(ok p hp).1, svi.ne (List.mem_map.mpr ⟨p, hp, rfl⟩), (ok p hp).2⟩
    refine ⟨fun σ H => ∃ zs ps y5 y6 y7, σ = [some (.ref b), some (.ref t), some (.ref D), none, none, y5, y6, y7, none] ∧ But b G H ∧ BagAt K H b c ∧ H D = some (.lst zs) ∧ Paired (PairI K H) zs ps ∧ (∀ p ∈ ps, p.1 < 2 ^ n ∧ p.1 ≠ 0 ∧ p.2 < 2) ∧ zs.length ≤ max zs0.length 6, ?_, ?_⟩
    · refine ⟨_, rfl, D, zs, rfl, .inl (.inl (.inl eZ)), _, _, rfl, rfl, _, rfl, ite2 (fun hc => ?_) (fun _ => iteF ⟨zs, ps, _, _, _, rfl, s, Bs, eZ, hz, ok1, by omega⟩)⟩
      have l2 : 1 < zs.length := by
        have := of_decide_eq_true hc
        omega
      refine ⟨_, rfl, D, zs, rfl, .inl (.inl (.inl eZ)), _, _, rfl, rfl, _, rfl, ite2 (fun hc6 => ?_) (fun _ => iteF ⟨zs, ps, _, _, _, rfl, s, Bs, eZ, hz, ok1, by omega⟩)⟩
      have l6 : zs.length < 6 := by
        have := of_decide_eq_true hc6
        omega
      obtain ⟨ys0, es0⟩ := Bs.lst
      refine ⟨_, rfl, b, c, 4, rfl, Bs, by decide, by decide, fun H3 r s3 B3 hr => ⟨rfl, _, rfl, ?_⟩⟩
      have eZ3 := s3 _ _ nDb eZ
      have hz3 := Paired.mono2 (fun _ _ h => PairI.but es0 s3 h) hz
      refine ite2 (fun _ => ?_) (fun _ => ⟨zs, ps, _, _, _, rfl, s.trans s3, B3, eZ3, hz3, ok1, by omega⟩)
      have h0 : 0 < zs.length := by omega
      obtain ⟨p0, hp0, hv0⟩ := Paired.get hz3 (List.getElem?_eq_getElem h0)
      obtain ⟨p1, hp1, hv1⟩ := Paired.get hz3 (List.getElem?_eq_getElem l2)
      have g0 : zs[0]? = some zs[0] := List.getElem?_eq_getElem h0
      have g1 : zs[1]? = some zs[1] := List.getElem?_eq_getElem l2
      generalize zs[0] = z0 at hv0 g0
      generalize zs[1] = z1 at hv1 g1
      obtain ⟨t0', rfl, ht0⟩ := hv0
      obtain ⟨t1', rfl, ht1⟩ := hv1
      refine ⟨_, rfl, .inl ⟨rfl, zs, .inl (.inl eZ3)⟩, _, rfl, D, zs, 0, .ref t0', rfl, rfl, .inl (.inl eZ3), atI_nat (j := 0) g0, t0', _, 0, _, rfl, rfl, ht0, atI_nat (j := 0) rfl, _, rfl, D, zs, 1, .ref t1', rfl, rfl, .inl (.inl eZ3), atI_nat (j := 1) g1, t1', _, 0, _, rfl, rfl, ht1, atI_nat (j := 0) rfl, _, _, rfl, rfl, ?_⟩
      refine ⟨_, rfl, D, zs, 0, .ref t0', rfl, rfl, .inl (.inl eZ3), atI_nat (j := 0) g0, t0', _, 1, _, rfl, rfl, ht0, atI_nat (j := 1) rfl, _, rfl, D, zs, 1, .ref t1', rfl, rfl, .inl (.inl eZ3), atI_nat (j := 1) g1, t1', _, 1, _, rfl, rfl, ht1, atI_nat (j := 1) rfl, _, _, rfl, rfl, (by show 2 ≤ sizeLine; decide), fun q5 nq5 => ?_⟩
      have st := same_new (o := .tup [V.int (Builtin.bitXor (p0.1 : Int) (p1.1 : Int)), V.int (Builtin.bitXor (p0.2 : Int) (p1.2 : Int))]) nq5
      have hn : PairI K (upd H3 q5 (.tup [V.int (Builtin.bitXor (p0.1 : Int) (p1.1 : Int)), V.int (Builtin.bitXor (p0.2 : Int) (p1.2 : Int))])) (.ref q5) (p0.1 ^^^ p1.1, p0.2 ^^^ p1.2) := by
        refine ⟨q5, rfl, .inl (.inl ?_)⟩
        rw [upd_same, xor_nat, xor_nat]
      have eZ5 := st _ _ eZ3
      obtain ⟨o0, o0'⟩ := ok p0 (List.mem_of_getElem? hp0)
      obtain ⟨o1, o1'⟩ := ok p1 (List.mem_of_getElem? hp1)
      refine ⟨D, zs, .ref q5, rfl, rfl, eZ5, small1000 (by omega), zs ++ [V.ref q5], ps ++ [(p0.1 ^^^ p1.1, p0.2 ^^^ p1.2)], _, _, _, rfl, but_mut ((s.trans s3).trans (But.same st)) hD, BagAt.mut hB hD (B3.same st), upd_same, ?_, ?_, by simp; omega⟩
      · exact PySem.Paired.snoc (Paired.mono2 (fun _ _ h => PairI.but eZ5 But.at_ (PairI.same st h)) hz3) (PairI.but eZ5 But.at_ hn)
      · intro x h
        rcases List.mem_append.mp h with h | h
        · exact ok1 x h
        · have h : x = (p0.1 ^^^ p1.1, p0.2 ^^^ p1.2) := by simpa using h
          rw [h]
          exact ⟨Nat.xor_lt_two_pow o0 o1, svi.pair (i := 0) (j := 1) (by rw [List.getElem?_map, hp0]; rfl) (by rw [List.getElem?_map, hp1]; rfl) (by decide), bit_xor o0' o1'⟩
    rintro σ H5 ⟨zs, ps, y5, y6, y7, rfl, s, Bs, eZ, hz, ok, lz⟩
    have lzp := Paired.len hz
    refine ⟨_, rfl, D, rfl, ⟨zs, .inl (.inl eZ)⟩, fun D2 hD2 => ?_⟩
    refine lc_list (K := K) (a := D) (xs := zs) (fun j H' => ∃ ws, H' D2 = some (.lst ws) ∧ Same H5 H' ∧ Paired (LineV K H') ws ((ps.take j).map flipL)) ⟨[], upd_same, same_new hD2, .nil⟩ (fun j H' _ ⟨_, _, s, _⟩ => .inl (.inl (s _ _ eZ))) ?_ ?_
    · rintro j x H' hj ⟨ws, eW, s6, hw⟩
      obtain ⟨p, hp, hx⟩ := Paired.get hz hj
      obtain ⟨tx, rfl, htx⟩ := hx.same s6
      have hjl := (List.getElem?_eq_some_iff.mp hp).1
      obtain ⟨o1, o3, o2⟩ := ok p (List.mem_of_getElem? hp)
      have lw := Paired.len hw
      rw [List.length_map, List.length_take] at lw
      refine ⟨tx, _, rfl, htx, rfl, _, _, rfl, _, [], rfl, rfl, rfl, _, rfl, p.1, rfl, w63 _ o1, fun H7 q s7 n7 e7 => ⟨_, rfl, _, _, rfl, rfl, (by show 2 ≤ sizeLine; decide), fun q6 nq6 => ?_⟩⟩
      have st := same_new (o := .tup [V.ref q, V.int (1 - (p.2 : Int))]) nq6
      have eW6 := st _ _ (s7 _ _ eW)
      refine ⟨ws, eW6, small1000 (by omega), ws ++ [V.ref q6], upd_same, same_mut (s6.trans (s7.trans st)) hD2, ?_⟩
      rw [List.take_succ_eq_append_getElem hjl, (List.getElem?_eq_some_iff.mp hp).2, List.map_append]
      refine PySem.Paired.snoc (lines_but eW6 But.at_ (lines_same (s7.trans st) hw)) (LineV.but eW6 But.at_ ⟨q6, .ref q, rfl, .inl (.inl ?_), q, rfl, .inl (.inl (st _ _ e7))⟩)
      rw [upd_same]
      show _ = some (HO.tup [V.ref q, V.int ((1 - p.2 : Nat) : Int)])
      have e : (1 : Int) - (p.2 : Int) = ((1 - p.2 : Nat) : Int) := by omega
      rw [← e]
    rintro H6 ⟨ws, eW, s6, hw⟩
    rw [lzp, List.take_length] at hw
    have lw := Paired.len hw
    rw [List.length_map] at lw
    have hc := paired_zip hw
    obtain ⟨f1, f2, f3, f4⟩ := sort_facts hc
    have e1 : (ws.zip (ps.map flipL)).map (·.1) = ws := List.map_fst_zip (by rw [List.length_map]; omega)
    refine ⟨D2, _, rfl, ?_, f1, f2, f3, f4, fun p np => ?_⟩
    · rw [List.map_map]
      show SqL K H6 D2 ((ws.zip (ps.map flipL)).map (·.1))
      rw [e1]
      exact .inl (.inl eW)
    refine ⟨p, _, rfl, .inl ⟨.inl (.inl upd_same), fun q nq => ?_⟩⟩
    have pm : ((((ws.zip (ps.map flipL)).map fun c => ((c.1, lineD c.2) : V × PyData)).mergeSort (PySem.W.dataLe false (·.2))).map (·.1)).Perm ws := by
      have h := (List.mergeSort_perm ((ws.zip (ps.map flipL)).map fun c => ((c.1, lineD c.2) : V × PyData)) (PySem.W.dataLe false (·.2))).map (·.1)
      rw [List.map_map] at h
      have e2 : ((ws.zip (ps.map flipL)).map ((fun b : V × PyData => b.1) ∘ fun c => ((c.1, lineD c.2) : V × PyData))) = ws := e1
      rw [e2] at h
      exact h
    have sp := same_new (o := .lst ((((ws.zip (ps.map flipL)).map fun c => ((c.1, lineD c.2) : V × PyData)).mergeSort (PySem.W.dataLe false (·.2))).map (·.1))) np
    have sq := same_new (o := .tup ((((ws.zip (ps.map flipL)).map fun c => ((c.1, lineD c.2) : V × PyData)).mergeSort (PySem.W.dataLe false (·.2))).map (·.1))) nq
    obtain ⟨ds, hds, pd⟩ := paired_perm pm hw
    refine kk _ _ ds (s.trans (But.same (s6.trans (sp.trans sq)))) (Bs.same (s6.trans (sp.trans sq))) ⟨q, _, rfl, .inl (.inl upd_same), lines_same (sp.trans sq) hds⟩ (fun l h => ?_) ?_
    · obtain ⟨k, hk, rfl⟩ := List.mem_map.mp (pd.mem_iff.mp h)
      obtain ⟨a1, a2, a3⟩ := ok k hk
      exact ⟨a1, a2, by show 1 - k.2 < 2; omega⟩
    rw [pd.length_eq, List.length_map]
    omega
end
end Es
set_option Elab.async false
set_option linter.all false
set_option maxRecDepth 100000
set_option maxHeartbeats 4000000
namespace Es
open PySem PySem.Spec PyProof.Rows L2
section
variable {P : Program} {w : World} {K : PySem.W.Frag} {mg : Str → Option Value} {base : Heap}
theorem ok_law_cover_book {f : Addr} {fd : FuncData} (F : Fun K "_law_cover_book" "_law_cover_book" s_law_cover_book f fd) (T : Txt mg) (c_law_cut_up : CalleeOf P w K mg base 5 "_law_cut_up" ["bag", "many", "most"] (sp_law_cut_up K)) (c_law_take : CalleeOf P w K mg base 1 "_law_take" ["bag", "many"] (sp_law_take K)) (c_law_wider : CalleeOf P w K mg base 2 "_law_wider" ["bag", "flat"] (sp_law_wider K)) (c_law_spoken : CalleeOf P w K mg base 3 "_law_spoken" ["bag", "flat"] (sp_law_spokenZ K)) (c_law_any_clause : CalleeOf P w K mg base 4 "_law_any_clause" ["bag", "many", "most"] (sp_law_any_clause K)) (c_law_some : CalleeOf P w K mg base 2 "_law_some" ["bag", "things"] (sp_law_some K)) (c_law_mixed : CalleeOf P w K mg base 2 "_law_mixed" ["bag", "things"] (sp_law_mixed K)) : FnG P w K mg base 6 f fd ["bag", "many", "most"] (sp_law_cover_bookZ K) := by
  refine okG F sc_law_cover_book (fun h => ?_) (fun cdv B out t0 G ys R E hr hg h => ?_)
  · obtain ⟨b, c, n, k, rfl, _⟩ := h
    rfl
  · obtain ⟨b, c, n, k, rfl, hB, n0, n62, k0, k50, kk⟩ := h
    refine ⟨_, (pss_cons
        (ps_setLc (i := 3) (own := [("flat", 4)]) rfl sc_law_cover_book.nd rfl rfl (sw_true rfl rfl rfl (by decide +kernel)) (pi_list (pe_callC c_law_cut_up (hr.mono (by decide)) hg (by rfl) (pa_cons (pv 0) (pa_cons (pv 1) (pa_cons (pv 2) pa_nil))))) (blkOk_by (own := [("flat", 4)]) (N := ["bag", "many", "most", "flats", "flat", "found", "turn"]) (sc := defScope s_law_cover_book) (by decide +kernel)) (fun _ _ _ _ _ => (pg_name (i := 4) sc_law_cover_book.nd rfl (.inl rfl))) (fun _ _ _ _ _ => pts_nil) (fun _ _ _ _ _ => (pe_via (pe_ifExp (pt_cmpR op_eq (pe_callC c_law_take (hr.mono (by decide)) hg (by rfl) (pa_cons (pv 0) (pa_cons pe_int pa_nil))) pe_int (nomark _)) (pe_callC c_law_wider (hr.mono (by decide)) hg (by rfl) (pa_cons (pv 0) (pa_cons (pv 4) pa_nil))) (pv 4)))))
        (pss_cons
        (ps_setLc (i := 5) (own := [("flat", 4)]) rfl sc_law_cover_book.nd rfl rfl (sw_true rfl rfl rfl (by decide +kernel)) (pi_list (pv 3)) (blkOk_by (own := [("flat", 4)]) (N := ["bag", "many", "most", "flats", "flat", "found", "turn"]) (sc := defScope s_law_cover_book) (by decide +kernel)) (fun _ _ _ _ _ => (pg_name (i := 4) sc_law_cover_book.nd rfl (.inl rfl))) (fun _ _ _ _ _ => (pts_one (pt_cmpR op_lt (pe_callB (r := rLenK K) call_len_seq (by rfl) T.z_len (by decide +kernel) (pa_cons (pv 4) pa_nil)) pe_int (nomark _)))) (fun _ _ _ _ _ => (pe_callC c_law_spoken (hr.mono (by decide)) hg (by rfl) (pa_cons (pv 0) (pa_cons (pv 4) pa_nil)))))
        (pss_cons
        (ps_for PassesOwn.never rfl (pi_range1 (by rfl) T.z_range (pa_cons (pe_callC c_law_take (hr.mono (by decide)) hg (by rfl) (pa_cons (pv 0) (pa_cons (pe_callB (call_max2 rfl) (by rfl) T.z_max (by decide +kernel) (pa_cons pe_int (pa_cons (pe_op op_sub (pe_op op_add (pv 2) pe_int) (pe_callB call_len_seq (by rfl) T.z_len (by decide +kernel) (pa_cons (pv 5) pa_nil))) pa_nil))) pa_nil))) pa_nil)) (pg_name (i := 6) sc_law_cover_book.nd rfl (.inl rfl))
        (pss_one
          (ps_expr (pe_bm PySem.F.plainAttrs_list PySem.F.slot_list_append PySem.F.type_list_append mt_append (pv 5) (pa_cons (pe_via (pe_ifExp (pt_cmpR op_gt (pe_callC c_law_take (hr.mono (by decide)) hg (by rfl) (pa_cons (pv 0) (pa_cons pe_int pa_nil))) pe_int (nomark _)) (pe_callC c_law_any_clause (hr.mono (by decide)) hg (by rfl) (pa_cons (pv 0) (pa_cons (pv 1) (pa_cons pe_int pa_nil)))) (pe_callC c_law_some (hr.mono (by decide)) hg (by rfl) (pa_cons (pv 0) (pa_cons (pv 5) pa_nil))))) pa_nil)))))
        (pss_one
        (ps_ret (pe_tup (pa_cons (pv 1) (pa_cons (pe_callTy call_tuple_of (by rfl) T.z_tuple (by decide +kernel) (pa_cons (pe_callC c_law_mixed (hr.mono (by decide)) hg (by rfl) (pa_cons (pv 0) (pa_cons (pv 5) pa_nil))) pa_nil)) pa_nil)))))))), ?_⟩
    refine ⟨_, rfl, _, rfl, _, rfl, b, c, n, k, rfl, hB, n0, n62, k0, by omega, fun H1 a us fs s1 B1 na nab ea P1 ok1 lu l0 => ⟨a, rfl, ⟨us, .inl (.inl ea)⟩, fun D hD => ?_⟩⟩
    obtain ⟨y1, e1⟩ := B1.lst
    have nDb : D ≠ b := (ne_of_none e1 hD).symm
    refine lc_list (K := K) (a := a) (xs := us) (fun j H' => ∃ zs gs, H' D = some (.lst zs) ∧ But b H1 H' ∧ BagAt K H' b c ∧ Paired (FlatV K H') zs gs ∧ (∀ g ∈ gs, (FlatOk g ∧ ∀ e ∈ g, e.2.1 < 2 ^ n) ∧ g.length ≤ 6) ∧ zs.length = j)
      ⟨[], [], upd_same, But.new hD, B1.same (same_new hD), .nil, (fun g h => by cases h), rfl⟩ (fun j H' _ ⟨_, _, _, s, _⟩ => .inl (.inl (s _ _ nab ea))) ?_ ?_
    · rintro j x H' hj ⟨zs, gs, eD, s, Bx, hz, okz, lz⟩
      obtain ⟨f, hf, hx⟩ := Paired.get P1 hj
      have hjl := (List.getElem?_eq_some_iff.mp hj).1
      obtain ⟨⟨F, hlt⟩, l6⟩ := ok1 f (List.mem_of_getElem? hf)
      have hx' := hx.bag B1 s
      obtain ⟨yx, ex⟩ := Bx.lst
      refine ⟨rfl, fun v H2 => ∃ g, FlatV K H2 v g ∧ ((FlatOk g ∧ ∀ e ∈ g, e.2.1 < 2 ^ n) ∧ g.length ≤ 6) ∧ But b H' H2 ∧ BagAt K H2 b c, ?_, ?_⟩
      · refine ⟨_, rfl, b, c, 3, rfl, Bx, by decide, by decide, fun H2 r s2 B2 hr => ⟨rfl, _, rfl, ite2 (fun _ => ?_) (fun _ => ⟨_, rfl, f, hx'.bag Bx s2, ⟨⟨F, hlt⟩, l6⟩, s2, B2⟩)⟩⟩
        exact ⟨_, rfl, _, rfl, b, c, x, f, rfl, B2, hx'.bag Bx s2, F, fun H3 w g s3 B3 hw FG gin => ⟨g, hw, ⟨⟨FG, fun e he => hlt e (gin e he)⟩, Nat.le_trans (sub_len FG gin) l6⟩, s2.trans s3, B3⟩⟩
      · rintro v H2 ⟨g, hg, okg, s2, B2⟩
        have eD2 := s2 _ _ nDb eD
        refine ⟨zs, eD2, small1000 (by omega), zs ++ [v], gs ++ [g], upd_same, but_mut (s.trans s2) hD, BagAt.mut B1 hD B2, ?_, ?_, by simp [lz]⟩
        · exact PySem.Paired.snoc (Paired.mono2 (fun _ _ h => FlatV.but eD2 But.at_ (FlatV.but ex s2 h)) hz) (FlatV.but eD2 But.at_ hg)
        · intro y h
          rcases List.mem_append.mp h with h | h
          · exact okz y h
          · have h : y = g := by simpa using h
            rw [h]
            exact okg
    rintro H2 ⟨zs, gs, eD, s2, B2, P2, ok2, lz⟩
    obtain ⟨y2, e2⟩ := B2.lst
    refine ⟨_, rfl, D, rfl, ⟨zs, .inl (.inl eD)⟩, fun D2 hD2 => ?_⟩
    have n2b : D2 ≠ b := (ne_of_none e2 hD2).symm
    refine lc_list (K := K) (a := D) (xs := zs) (fun j H' => ∃ ws cs, H' D2 = some (.lst ws) ∧ But b H2 H' ∧ BagAt K H' b c ∧ Paired (LinesV K H') ws cs ∧ (∀ x ∈ cs, ClOkZ n x) ∧ ws.length = j)
      ⟨[], [], upd_same, But.new hD2, B2.same (same_new hD2), .nil, (fun g h => by cases h), rfl⟩ (fun j H' _ ⟨_, _, _, s, _⟩ => .inl (.inl (s _ _ nDb eD))) ?_ ?_
    · rintro j x H' hj ⟨ws, cs, eW, s, Bx, hw, okw, lw⟩
      obtain ⟨g, hg, hx⟩ := Paired.get P2 hj
      have hjl := (List.getElem?_eq_some_iff.mp hj).1
      obtain ⟨⟨F, hlt⟩, l6⟩ := ok2 g (List.mem_of_getElem? hg)
      obtain ⟨tv, uv, rfl, htv, hPv⟩ := hx.bag B2 s
      obtain ⟨yx, ex⟩ := Bx.lst
      have luv := Paired.len hPv
      rw [flat_len F] at luv
      refine ⟨rfl, _, rfl, tv, uv, rfl, .inr htv, _, _, rfl, rfl, _, rfl, ite2 (fun _ => ?_) (fun hc => absurd (decide_eq_true (by omega)) hc)⟩
      refine ⟨_, rfl, _, rfl, b, c, .ref tv, n, canon g, rfl, Bx, ⟨tv, uv, rfl, htv, hPv⟩, canon_below F hlt, canon_solv F, by rw [flat_len F]; omega, n62, fun H3 u ks s3 B3 hu hk lk => ?_⟩
      have eW3 := s3 _ _ n2b eW
      refine ⟨ws, eW3, small1000 (by omega), ws ++ [u], cs ++ [ks], upd_same, but_mut (s.trans s3) hD2, BagAt.mut B2 hD2 B3, ?_, ?_, by simp [lw]⟩
      · exact PySem.Paired.snoc (Paired.mono2 (fun _ _ h => LinesV.but eW3 But.at_ (LinesV.but ex s3 h)) hw) (LinesV.but eW3 But.at_ hu)
      · intro y h
        rcases List.mem_append.mp h with h | h
        · exact okw y h
        · have h : y = ks := by simpa using h
          rw [h]
          exact ⟨hk, by rw [flat_len F] at lk; omega⟩
    rintro H3 ⟨ws, cs, eW, s3, B3, P3, ok3, lw⟩
    have nG : G D2 = none := by
      have h1 : H1 D2 = none := s2.free n2b hD2
      exact s1.free n2b h1
    have em : (if ((k : Int) + 1 - (ws.length : Int)) > 1 then ((k : Int) + 1 - (ws.length : Int)) else 1) = ((max 1 (k + 1 - ws.length) : Nat) : Int) := by split <;> omega
    refine ⟨_, rfl, _, rfl, _, _, rfl, rfl, _, rfl, D2, ws, rfl, .inl (.inl (.inl eW)), _, _, rfl, rfl, _, _, rfl, b, c, max 1 (k + 1 - ws.length), ?_, B3, by omega, by omega, fun H4 q s4 B4 hq => ?_⟩
    · show [V.ref b, V.int (if ((k : Int) + 1 - (ws.length : Int)) > 1 then ((k : Int) + 1 - (ws.length : Int)) else 1)] = _
      rw [em]
    obtain ⟨y3, e3⟩ := B3.lst
    have sG := ((s1.trans s2).trans s3).trans s4
    refine ⟨(q : Int), rfl, by omega, by omega, for_range (lo := 0) (n := q) (fun i σ H => ∃ ws' cs' y6, σ = [some (.ref b), some (.int (n : Int)), some (.int (k : Int)), some (.ref D), none, some (.ref D2), y6] ∧ But b G H ∧ BagAt K H b c ∧ H D2 = some (.lst ws') ∧ Paired (LinesV K H) ws' cs' ∧ (∀ x ∈ cs', ClOkZ n x) ∧ ws'.length ≤ ws.length + i ∧ 0 < ws'.length)
      ⟨ws, cs, _, rfl, sG, B4, s4 _ _ n2b eW, Paired.mono2 (fun _ _ h => LinesV.but e3 s4 h) P3, ok3, by omega, by omega⟩ ?_ ?_⟩
    · rintro i σ H hi ⟨ws', cs', y6, rfl, s5, B5, e5, P5, ok5, l5, p5⟩
      obtain ⟨y5, eb5⟩ := B5.lst
      refine ⟨_, rfl, .inl ⟨rfl, _, .inl (.inl e5)⟩, fun v H' => ∃ ls, LinesV K H' v ls ∧ ClOkZ n ls ∧ But b H H' ∧ BagAt K H' b c, ?_, ?_⟩
      · refine ⟨_, rfl, b, c, 3, rfl, B5, by decide, by decide, fun H6 r s6 B6 hr => ⟨_, _, rfl, rfl, _, rfl, ite2 (fun _ => ?_) (fun _ => ?_)⟩⟩
        · exact ⟨_, rfl, _, rfl, b, c, n, 4, rfl, B6, n0, n62, by decide, fun H7 v ls s7 B7 hv hl ll => ⟨ls, hv, ⟨hl, by omega⟩, s6.trans s7, B7⟩⟩
        · obtain ⟨y6', eb6⟩ := B6.lst
          refine ⟨_, rfl, _, rfl, b, c, D2, ws', rfl, B6, n2b, .inl (.inl (.inl (s6 _ _ n2b e5))), p5, by omega, fun H7 r7 v s7 B7 hx => ?_⟩
          obtain ⟨ls, hls, hv⟩ := Paired.get P5 hx
          exact ⟨ls, LinesV.but eb6 s7 (LinesV.but eb5 s6 hv), ok5 ls (List.mem_of_getElem? hls), s6.trans s7, B7⟩
      · rintro v H6 ⟨ls, hv, okl, s6, B6⟩
        have e6 := s6 _ _ n2b e5
        refine ⟨D2, ws', v, rfl, rfl, e6, small1000 (by omega), ws' ++ [v], cs' ++ [ls], _, rfl, but_mut (s5.trans s6) nG, BagAt.mut hB nG B6, upd_same, ?_, ?_, by simp; omega, by simp⟩
        · exact PySem.Paired.snoc (Paired.mono2 (fun _ _ h => LinesV.but e6 But.at_ (LinesV.but eb5 s6 h)) P5) (LinesV.but e6 But.at_ hv)
        · intro y h
          rcases List.mem_append.mp h with h | h
          · exact ok5 y h
          · have h : y = ls := by simpa using h
            rw [h]
            exact okl
    · rintro σ H ⟨ws', cs', y6, rfl, s5, B5, e5, P5, ok5, l5, p5⟩
      obtain ⟨y5, eb5⟩ := B5.lst
      have lc := Paired.len P5
      refine ⟨_, rfl, _, rfl, _, rfl, b, c, D2, ws', rfl, B5, n2b, .inl (.inl (.inl e5)), by omega, fun H6 p ys s6 B6 np npb ep perm => ⟨p, ys, rfl, .inl ⟨.inl (.inl ep), fun q2 nq => ⟨(by show 2 ≤ sizeLine; decide), fun t nt => ?_⟩⟩⟩⟩
      obtain ⟨ds, hds, pd⟩ := paired_perm perm (Paired.mono2 (fun _ _ h => LinesV.but eb5 s6 h) P5)
      have sq := same_new (o := .tup ys) nq
      have st := same_new (o := .tup [V.int (n : Int), V.ref q2]) nt
      refine kk _ _ ds ((s5.trans s6).trans (But.same (sq.trans st))) (B6.same (sq.trans st)) ⟨t, q2, ys, rfl, .inl (.inl upd_same), .inl (.inl (st _ _ upd_same)), Paired.mono2 (fun _ _ h => LinesV.same (sq.trans st) h) hds⟩ (fun x h => ok5 x (pd.mem_iff.mp h)) ?_ ?_
      · rw [pd.length_eq]
        omega
      · rw [pd.length_eq]
        omega
end
end Es
set_option Elab.async false
set_option linter.all false
set_option maxRecDepth 100000
set_option maxHeartbeats 4000000
namespace Es
open PySem PySem.Spec PyProof.Rows L2
section
variable {P : Program} {w : World} {K : PySem.W.Frag} {mg : Str → Option Value} {base : Heap}
theorem ok_law_book {f : Addr} {fd : FuncData} (F : Fun K "_law_book" "_law_book" s_law_book f fd) (T : Txt mg) (c_law_take : CalleeOf P w K mg base 1 "_law_take" ["bag", "many"] (sp_law_take K)) (c_law_any_book : CalleeOf P w K mg base 5 "_law_any_book" ["bag", "many", "most"] (sp_law_any_bookZ K)) (c_law_planted_book : CalleeOf P w K mg base 5 "_law_planted_book" ["bag", "many", "most"] (sp_law_planted_bookZ K)) (c_law_chain_book : CalleeOf P w K mg base 5 "_law_chain_book" ["bag", "many"] (sp_law_chain_bookZ K)) (c_law_beside_book : CalleeOf P w K mg base 3 "_law_beside_book" ["bag", "one", "other"] (sp_law_beside_bookZ K)) (c_law_cover_book : CalleeOf P w K mg base 6 "_law_cover_book" ["bag", "many", "most"] (sp_law_cover_bookZ K)) : FnG P w K mg base 7 f fd ["bag", "many", "most"] (sp_law_bookZ K) := by
  refine okG F sc_law_book (fun h => ?_) (fun cdv B out t0 G ys R E hr hg h => ?_)
  · obtain ⟨b, c, n, k, rfl, _⟩ := h
    rfl
  · obtain ⟨b, c, n, k, rfl, hB, n0, n48, k0, k48, kk⟩ := h
    refine ⟨_, (pss_cons
        (ps_par (i := 1) (j := 3) rfl sc_law_book.nd rfl rfl (by decide) rfl rfl (pa_cons (pe_callB (call_max2 rfl) (by rfl) T.z_max (by decide +kernel) (pa_cons (pe_callTy call_int1 (by rfl) T.z_int (by decide +kernel) (pa_cons (pe_cmpR op_gt (pe_callC c_law_take (hr.mono (by decide)) hg (by rfl) (pa_cons (pv 0) (pa_cons pe_int pa_nil))) pe_int (nomark _)) pa_nil)) (pa_cons (pe_callC c_law_take (hr.mono (by decide)) hg (by rfl) (pa_cons (pv 0) (pa_cons (pe_op op_add (pv 1) pe_int) pa_nil))) pa_nil))) (pa_cons (pe_callC c_law_take (hr.mono (by decide)) hg (by rfl) (pa_cons (pv 0) (pa_cons pe_int pa_nil))) pa_nil)) (by rfl))
        (pss_cons
        (ps_if (PW.pt (pw_or (pt_cmpR op_lt (pv 3) pe_int (nomark _)) (pw_or1 (pt_cmpR op_eq (pv 1) pe_int (nomark _)))))
        (pss_one
          (ps_ret (pe_callC c_law_any_book (hr.mono (by decide)) hg (by rfl) (pa_cons (pv 0) (pa_cons (pv 1) (pa_cons (pv 2) pa_nil))))))
        pss_nil)
        (pss_cons
        (ps_if (pt_cmpR op_in_seq (pv 3) (pe_tup (pa_cons pe_int (pa_cons pe_int pa_nil))) (by rfl))
        (pss_one
          (ps_ret (pe_ix ix_tup (pe_callC c_law_planted_book (hr.mono (by decide)) hg (by rfl) (pa_cons (pv 0) (pa_cons (pv 1) (pa_cons (pv 2) pa_nil)))) pe_int (fun _ _ => rfl))))
        pss_nil)
        (Evl.pss_cut
        (ps_if (PW.pt (pw_and (pt_cmpR op_eq (pv 3) pe_int (nomark _)) (pw_and1 (pt_cmpR op_le (pe_op op_add (pv 1) pe_int) (pv 2) (nomark _)))))
        (pss_one
          (ps_ret (pe_callC c_law_chain_book (hr.mono (by decide)) hg (by rfl) (pa_cons (pv 0) (pa_cons (pv 1) pa_nil)))))
        pss_nil)
        (Evl.pss_cut
        (ps_if (PW.pt (pw_and (pt_cmpR op_eq (pv 3) pe_int (nomark _)) (pw_and (pt_cmpR op_gt (pv 1) pe_int (nomark _)) (pw_and1 (pt_cmpR op_gt (pv 2) pe_int (nomark _))))))
        (pss_cons
          (ps_set (i := 4) sc_law_book.nd rfl (Or.inl rfl) (pe_op op_add pe_int (pe_callC c_law_take (hr.mono (by decide)) hg (by rfl) (pa_cons (pv 0) (pa_cons (pe_op op_sub (pv 1) pe_int) pa_nil)))))
          (pss_cons
          (ps_set (i := 5) sc_law_book.nd rfl (Or.inl rfl) (pe_ix ix_tup (pe_callC c_law_planted_book (hr.mono (by decide)) hg (by rfl) (pa_cons (pv 0) (pa_cons (pe_op op_sub (pv 1) (pv 4)) (pa_cons (pe_op op_fdiv (pv 2) pe_int) pa_nil)))) pe_int (fun _ _ => rfl)))
          (pss_one
          (ps_ret (pe_callC c_law_beside_book (hr.mono (by decide)) hg (by rfl) (pa_cons (pv 0) (pa_cons (pe_callC c_law_cover_book (hr.mono (by decide)) hg (by rfl) (pa_cons (pv 0) (pa_cons (pv 4) (pa_cons (pe_op op_fdiv (pv 2) pe_int) pa_nil)))) (pa_cons (pv 5) pa_nil))))))))
        pss_nil)
        (pss_cons
        (ps_set (i := 6) sc_law_book.nd rfl (Or.inl rfl) (pe_callC c_law_cover_book (hr.mono (by decide)) hg (by rfl) (pa_cons (pv 0) (pa_cons (pv 1) (pa_cons (pv 2) pa_nil)))))
        (pss_cons
        (ps_if (pt_cmpR op_eq (pv 3) pe_int (nomark _))
        (pss_cons
          (ps_set (i := 7) sc_law_book.nd rfl (Or.inl rfl) (pe_callC c_law_take (hr.mono (by decide)) hg (by rfl) (pa_cons (pv 0) (pa_cons (pe_callB call_len_seq (by rfl) T.z_len (by decide +kernel) (pa_cons (pe_ix ix_tup (pv 6) pe_int (fun _ _ => rfl)) pa_nil)) pa_nil))))
          (pss_one
          (ps_ret (pe_tup (pa_cons (pv 1) (pa_cons (pe_op op_catA (pe_slice sl_tup (pe_ix ix_tup (pv 6) pe_int (fun _ _ => rfl)) po_none (po_some (pv 7))) (pe_slice sl_tup (pe_ix ix_tup (pv 6) pe_int (fun _ _ => rfl)) (po_some (pe_op op_add (pv 7) pe_int)) po_none)) pa_nil))))))
        pss_nil)
        (pss_one
        (ps_ret (pv 6)))))))))), ?_⟩
    refine ⟨_, rfl, b, c, 12, rfl, hB, by decide, by decide, fun H1 r s1 B1 hr => ⟨_, _, rfl, rfl, .inr ⟨_, rfl, _, rfl, _, rfl, _, _, rfl, rfl, b, c, n + 1, rfl, B1, by omega, by omega, fun H2 r2 s2 B2 h2 => ⟨_, _, rfl, _, rfl, b, c, 8, rfl, B2, by decide, by decide, fun H3 way s3 B3 hway => ⟨_, _, rfl, ?_⟩⟩⟩⟩⟩
    obtain ⟨m, em, mn⟩ : ∃ m : Nat, (if (r2 : Int) > (if decide ((0 : Int) < (r : Int)) = true then (1 : Int) else 0) then (r2 : Int) else (if decide ((0 : Int) < (r : Int)) = true then (1 : Int) else 0)) = (m : Int) ∧ m ≤ n := by
      by_cases hz : decide ((0 : Int) < (r : Int)) = true
      · rw [if_pos hz]
        by_cases h : (r2 : Int) > 1
        · rw [if_pos h]
          exact ⟨r2, rfl, by omega⟩
        · rw [if_neg h]
          exact ⟨1, rfl, by omega⟩
      · rw [if_neg hz]
        by_cases h : (r2 : Int) > 0
        · rw [if_pos h]
          exact ⟨r2, rfl, by omega⟩
        · rw [if_neg h]
          exact ⟨0, rfl, by omega⟩
    have fin : ∀ H v cs, But b H3 H → BagAt K H b c → BookV K H v m cs → (∀ ls ∈ cs, ClOkZ m ls) → cs.length ≤ k + n + 3 → R v H := fun H v cs s B hv ok l => kk H v m cs (((s1.trans s2).trans s3).trans s) B mn hv ok l
    rw [em]
    refine ⟨_, rfl, _, _, rfl, rfl, _, rfl, ite2 (fun _ => iteT ?_) (fun _ => ⟨_, rfl, rfl, _, rfl, ite2 (fun _ => ?_) (fun hm => ?_)⟩)⟩
    · exact ⟨_, rfl, _, rfl, _, rfl, b, c, m, k, rfl, B3, by omega, by omega, fun H v cs s B hv ok lk => fin H v cs s B hv ok (by omega)⟩
    · exact ⟨_, rfl, _, rfl, _, rfl, b, c, m, k, rfl, B3, by omega, by omega, fun H v cs s B hv ok lk => fin H v cs s B hv ok (by omega)⟩
    have m0 : 0 < m := Nat.pos_of_ne_zero fun z => hm (decide_eq_true (by rw [z]; rfl))
    refine ⟨_, rfl, (by show 2 ≤ sizeLine; decide), fun t nt => ⟨t, _, rfl, .inr (.inl (.inl upd_same)), rfl, rfl, _, rfl, ite2 (fun _ => ?_) (fun _ => ?_)⟩⟩
    · have st := same_new (o := .tup [V.int 2, V.int 6]) nt
      exact ⟨_, rfl, _, rfl, _, rfl, b, c, m, k, rfl, B3.same st, by omega, by omega, fun H p v u cs s B ep hv ok lk => ⟨p, _, 0, v, rfl, rfl, .inl (.inl ep), rfl, fin H v cs ((But.same st).trans s) B hv ok (by omega)⟩⟩
    have st := same_new (o := .tup [V.int 2, V.int 6]) nt
    have B4 := B3.same st
    generalize upd H3 t (.tup [V.int 2, V.int 6]) = H4 at st B4 ⊢
    have sb := But.same (b := b) st
    refine ⟨fun σ H => σ = [some (.ref b), some (.int (m : Int)), some (.int (k : Int)), some (.int (way : Int)), none, none, none, none] ∧ H = H4, ?_, ?_⟩
    · refine ⟨_, rfl, rfl, _, rfl, ite2 (fun _ => ?_) (fun _ => iteF ⟨rfl, rfl⟩)⟩
      refine ⟨_, rfl, _, _, rfl, rfl, _, rfl, _, _, rfl, rfl, _, rfl, ite2 (fun hc => ?_) (fun _ => ⟨rfl, rfl⟩)⟩
      have hc := of_decide_eq_true hc
      exact ⟨_, rfl, _, rfl, b, c, m, rfl, B4, m0, by omega, fun H v cs s B hv ok lk => fin H v cs (sb.trans s) B hv ok (by omega)⟩
    rintro σ H ⟨rfl, rfl⟩
    refine ⟨fun σ H' => σ = [some (.ref b), some (.int (m : Int)), some (.int (k : Int)), some (.int (way : Int)), none, none, none, none] ∧ H' = H, ?_, ?_⟩
    · refine ⟨_, rfl, rfl, _, rfl, ite2 (fun _ => ?_) (fun _ => iteF ⟨rfl, rfl⟩)⟩
      refine ⟨_, rfl, _, _, rfl, rfl, _, rfl, ite2 (fun hm1 => ?_) (fun _ => iteF ⟨rfl, rfl⟩)⟩
      refine ⟨_, rfl, _, _, rfl, rfl, _, rfl, ite2 (fun hk3 => ?_) (fun _ => ⟨rfl, rfl⟩)⟩
      have hm1 := of_decide_eq_true hm1
      have hk3 := of_decide_eq_true hk3
      have e1 : (m : Int) - 1 = ((m - 1 : Nat) : Int) := by omega
      refine ⟨_, rfl, _, rfl, _, _, rfl, rfl, b, c, m - 1, ?_, B4, by omega, by omega, fun H5 r5 s5 B5 h5 => ⟨_, _, rfl, rfl, ?_⟩⟩
      · show [V.ref b, V.int ((m : Int) - 1)] = _
        rw [e1]
      have e2 : (1 : Int) + (r5 : Int) = ((1 + r5 : Nat) : Int) := by omega
      have e3 : (m : Int) - (1 + (r5 : Int)) = ((m - (1 + r5) : Nat) : Int) := by omega
      have e4 : (k : Int) / 2 = ((k / 2 : Nat) : Int) := by omega
      refine ⟨_, rfl, _, rfl, _, rfl, _, _, rfl, rfl, _, rfl, _, _, rfl, rfl, ⟨by decide, by decide⟩, b, c, m - (1 + r5), k / 2, ?_, B5, by omega, by omega, fun H6 p v u cs s6 B6 ep hv ok lk => ?_⟩
      · show [V.ref b, V.int ((m : Int) - (1 + (r5 : Int))), V.int ((k : Int) / 2)] = _
        rw [e3, e4]
      refine ⟨p, _, 0, v, rfl, rfl, .inl (.inl ep), rfl, ?_⟩
      obtain ⟨y6, e6⟩ := B6.lst
      refine ⟨_, rfl, _, rfl, _, rfl, _, rfl, _, _, rfl, rfl, ⟨by decide, by decide⟩, b, c, 1 + r5, k / 2, ?_, B6, by omega, by omega, by omega, by omega, fun H7 w ds s7 B7 hw okw _ lw => ?_⟩
      · show [V.ref b, V.int (1 + (r5 : Int)), V.int ((k : Int) / 2)] = _
        rw [e2, e4]
      refine ⟨_, rfl, b, c, w, v, 1 + r5, m - (1 + r5), k / 2, ds, cs, rfl, B7, hw, okw, hv.but e6 s7, ok, by omega, lw, lk, by omega, fun H8 x es s8 B8 hx okx lx => ?_⟩
      have em2 : 1 + r5 + (m - (1 + r5)) = m := by omega
      rw [em2] at hx okx
      exact fin H8 x es ((((sb.trans s5).trans s6).trans s7).trans s8) B8 hx okx (by omega)
    rintro σ H' ⟨rfl, rfl⟩
    refine ⟨_, rfl, _, rfl, _, rfl, b, c, m, k, rfl, B4, m0, by omega, k0, by omega, fun H5 v cs s5 B5 hv ok l0 lk => ?_⟩
    refine ⟨_, rfl, rfl, _, rfl, ite2 (fun _ => ?_) (fun _ => ⟨_, rfl, fin H5 v cs (sb.trans s5) B5 hv ok (by omega)⟩)⟩
    have hv' := hv
    obtain ⟨tb, cb, us, rfl, htb, hcb, hPb⟩ := hv
    have lus := Paired.len hPb
    obtain ⟨y5, e5⟩ := B5.lst
    refine ⟨_, rfl, _, rfl, tb, _, 1, .ref cb, rfl, rfl, htb, rfl, cb, us, rfl, .inr hcb, b, c, us.length, rfl, B5, by omega, by omega, fun H6 j s6 B6 hj => ?_⟩
    have hcb6 := sqT_but e5 s6 hcb
    have htb6 := sqT_but e5 s6 htb
    obtain ⟨c1, c2⟩ := cut_to hj
    obtain ⟨d1, d2⟩ := cut_from hj
    refine ⟨_, rfl, _, rfl, tb, _, 1, .ref cb, rfl, rfl, htb6, rfl, _, rfl, _, rfl, cb, us, rfl, hcb6, c2, fun p1 np1 => ?_⟩
    rw [c1]
    have t1 := same_new (o := .tup (us.take j)) np1
    refine ⟨_, rfl, tb, _, 1, .ref cb, rfl, rfl, sqT_same t1 htb6, rfl, _, rfl, _, _, rfl, rfl, ((j + 1 : Nat) : Int), rfl, cb, us, rfl, sqT_same t1 hcb6, d2, fun p2 np2 => ?_⟩
    rw [d1]
    have t2 := same_new (o := .tup (us.drop (j + 1))) np2
    refine cat_seq (.inl (.inl (t2 _ _ upd_same))) (.inl (.inl upd_same)) (Nat.le_of_lt (small1000 (by rw [List.length_take, List.length_drop]; omega))) fun H9 p s9 hp => ⟨(by show 2 ≤ sizeLine; decide), fun t5 nt5 => ?_⟩
    have t5' := same_new (o := .tup [V.int (m : Int), V.ref p]) nt5
    have P9 := Paired.mono2 (fun _ _ h => LinesV.same (t1.trans (t2.trans (s9.trans t5'))) (LinesV.but e5 s6 h)) hPb
    refine fin _ _ (cs.take j ++ cs.drop (j + 1)) ((sb.trans s5).trans (s6.trans (But.same (t1.trans (t2.trans (s9.trans t5')))))) (B6.same (t1.trans (t2.trans (s9.trans t5')))) ⟨t5, p, _, rfl, .inl (.inl upd_same), sqT_same t5' hp, paired_append (paired_take j P9) (paired_drop2 (j + 1) P9)⟩ (fun ls h => ?_) ?_
    · rcases List.mem_append.mp h with h | h
      · exact ok ls (List.mem_of_mem_take h)
      · exact ok ls (List.mem_of_mem_drop h)
    · rw [List.length_append, List.length_take, List.length_drop]
      omega
end
end Es
set_option Elab.async false
set_option linter.all false
set_option maxRecDepth 100000
set_option maxHeartbeats 4000000
namespace Es
open PySem PySem.Spec PyProof.Rows L2
section
variable {P : Program} {w : World} {K : PySem.W.Frag} {mg : Str → Option Value} {base : Heap}
theorem ok_law_room {f : Addr} {fd : FuncData} (F : Fun K "_law_room" "_law_room" s_law_room f fd) (T : Txt mg)  : FnG P w K mg base 1 f fd ["many"] (sp_law_roomZ K) := by
  refine okG F sc_law_room (fun h => ?_) (fun cdv B out t0 G ys R E hr hg h => ?_)
  · obtain ⟨n, rfl, _⟩ := h
    rfl
  · obtain ⟨n, rfl, n7, kk⟩ := h
    refine ⟨_, (pss_cons
        (ps_par (i := 1) (j := 2) rfl sc_law_room.nd rfl rfl (by decide) rfl rfl (pa_cons (pe_op op_sub (pe_op op_shlW pe_int (pe_op op_shlW pe_int (pv 0))) pe_int) (pa_cons (pe_lst pa_nil) pa_nil)) (by rfl))
        (pss_cons
        (ps_for PassesOwn.never rfl (pi_range1 (by rfl) T.z_range (pa_cons (pv 0) pa_nil)) (pg_name (i := 3) sc_law_room.nd rfl (.inl rfl))
        (pss_cons
          (ps_set (i := 4) sc_law_room.nd rfl (Or.inl rfl) (pe_op op_shlW pe_int (pe_op op_sub (pe_op op_sub (pv 0) pe_int) (pv 3))))
          (pss_cons
          (ps_set (i := 5) sc_law_room.nd rfl (Or.inl rfl) (pe_op op_shlW (pe_op op_sub (pe_op op_shlW pe_int (pv 4)) pe_int) (pv 4)))
          (pss_cons
          (ps_set (i := 6) sc_law_room.nd rfl (Or.inl rfl) pe_int)
          (pss_cons
          (ps_for PassesOwn.never rfl (pi_range1 (by rfl) T.z_range (pa_cons (pe_op op_shlW pe_int (pv 3)) pa_nil)) (pg_name (i := 7) sc_law_room.nd rfl (.inl rfl))
          (pss_one
            (ps_set (i := 6) sc_law_room.nd rfl (Or.inl rfl) (pe_op op_or (pv 6) (pe_op op_shlW (pv 5) (pe_op op_mul (pe_op op_mul pe_int (pv 4)) (pv 7)))))))
          (pss_one
          (ps_expr (pe_bm PySem.F.plainAttrs_list PySem.F.slot_list_append PySem.F.type_list_append mt_append (pv 2) (pa_cons (pv 6) pa_nil)))))))))
        (pss_one
        (ps_ret (pe_tup (pa_cons (pv 0) (pa_cons (pv 1) (pa_cons (pe_callTy call_tuple_of (by rfl) T.z_tuple (by decide +kernel) (pa_cons (pv 2) pa_nil)) pa_nil)))))))), ?_⟩
    have hn : 2 ^ n ≤ 4096 := Nat.pow_le_pow_right (n := 2) (j := 12) (by decide) n7
    have c1 : CShl 1 (n : Int) := shl_ok (n := 1) (by decide) (by omega)
    have c2 : CShl 1 ((1 : Int) * 2 ^ ((n : Int).toNat)) := by
      rw [shl_one]
      exact shl_ok (n := 1) (by decide) (by omega)
    refine ⟨_, rfl, _, _, rfl, rfl, c1, _, _, rfl, rfl, c2, _, _, rfl, rfl, Nat.zero_le _, fun cl ncl => ⟨_, _, rfl, ?_⟩⟩
    refine ⟨_, rfl, (n : Int), rfl, by omega, by omega, for_range (lo := 0) (n := n) (fun i σ H => ∃ cs y3 y4 y5 y6 y7, σ = [some (.int (n : Int)), some (.int ((1 : Int) * 2 ^ (((1 : Int) * 2 ^ ((n : Int).toNat)).toNat) - 1)), some (.ref cl), y3, y4, y5, y6, y7] ∧ Same G H ∧ H cl = some (.lst (iv cs)) ∧ cs = (List.range i).map (fun u => col (n - 1 - u) (2 ^ u)))
      ⟨[], _, _, _, _, _, rfl, same_new ncl, upd_same, rfl⟩ ?_ ?_⟩
    · rintro i σ H hi ⟨cs, y3, y4, y5, y6, y7, rfl, s1, ecl, ecs⟩
      have es : (1 : Int) * 2 ^ (((n : Int) - 1 - (0 + (i : Int))).toNat) = ((2 ^ (n - 1 - i) : Nat) : Int) := by
        have e : (n : Int) - 1 - (0 + (i : Int)) = ((n - 1 - i : Nat) : Int) := by omega
        rw [e, shl_one]
      have w0 : 0 < 2 ^ (n - 1 - i) := Nat.two_pow_pos _
      have w64 : 2 ^ (n - 1 - i) ≤ 2048 := Nat.pow_le_pow_right (n := 2) (j := 11) (by decide) (by omega)
      have c3 : CShl 1 ((n : Int) - 1 - (0 + (i : Int))) := by
        have e : (n : Int) - 1 - (0 + (i : Int)) = ((n - 1 - i : Nat) : Int) := by omega
        rw [e]
        exact shl_ok (n := 1) (by decide) (by omega)
      refine ⟨_, rfl, _, _, rfl, rfl, _, rfl, _, _, rfl, rfl, _, _, rfl, rfl, c3, ?_⟩
      dsimp only
      rw [es]
      have i128 : 2 ^ i ≤ 4096 := Nat.pow_le_pow_right (n := 2) (j := 12) (by decide) (by omega)
      have step : ∀ k, col (n - 1 - i) (k + 1) = col (n - 1 - i) k ||| (((2 ^ 2 ^ (n - 1 - i) - 1) * 2 ^ 2 ^ (n - 1 - i)) * 2 ^ (2 * 2 ^ (n - 1 - i) * k)) := fun k => rfl
      have c0 : col (n - 1 - i) 0 = 0 := rfl
      obtain ⟨C, eC⟩ : ∃ C, C = col (n - 1 - i) := ⟨_, rfl⟩
      rw [← eC] at step c0
      generalize 2 ^ (n - 1 - i) = w at w0 w64 step
      have c4 : CShl 1 (w : Int) := shl_ok (n := 1) (by decide) (by omega)
      have p1 : 1 ≤ 2 ^ w := Nat.two_pow_pos w
      have e3 : (1 : Int) * 2 ^ ((w : Int).toNat) - 1 = ((2 ^ w - 1 : Nat) : Int) := by
        rw [shl_one, Int.ofNat_sub p1]
        rfl
      have l64 : 2 ^ w ≤ 2 ^ 2048 := Nat.pow_le_pow_right (by decide) w64
      have c5 : CShl ((1 : Int) * 2 ^ ((w : Int).toNat) - 1) (w : Int) := by
        rw [e3]
        refine shl_ok (n := 2048) ?_ (by omega)
        show 2 ^ w - 1 < 2 ^ 2048
        exact Nat.lt_of_lt_of_le (Nat.sub_lt (by omega) (by decide)) l64
      have eb : ((1 : Int) * 2 ^ ((w : Int).toNat) - 1) * 2 ^ ((w : Int).toNat) = (((2 ^ w - 1) * 2 ^ w : Nat) : Int) := by
        rw [e3, Int.toNat_natCast]
        norm_cast
      have b128 : (2 ^ w - 1) * 2 ^ w < 2 ^ 4096 := by
        have h1 : (2 ^ w - 1) * 2 ^ w < 2 ^ w * 2 ^ w := Nat.mul_lt_mul_of_pos_right (by omega) (by omega)
        have h2 : 2 ^ w * 2 ^ w ≤ 2 ^ 2048 * 2 ^ 2048 := Nat.mul_le_mul l64 l64
        have h3 : 2 ^ 2048 * 2 ^ 2048 = 2 ^ 4096 := by rw [← Nat.pow_add]
        rw [← h3]
        exact Nat.lt_of_lt_of_le h1 h2
      refine ⟨_, rfl, _, _, rfl, rfl, c4, _, _, rfl, rfl, _, rfl, _, _, rfl, rfl, c5, ?_⟩
      dsimp only
      rw [eb]
      generalize (2 ^ w - 1) * 2 ^ w = B2 at b128 step
      obtain ⟨I, eI⟩ : ∃ I, I = 2 ^ i := ⟨_, rfl⟩
      rw [← eI] at i128
      have e2 : (1 : Int) * 2 ^ ((0 + (i : Int)).toNat) = ((I : Nat) : Int) := by rw [Int.zero_add, shl_one, eI]
      have c6 : CShl 1 (0 + (i : Int)) := by
        rw [Int.zero_add]
        exact shl_ok (n := 1) (by decide) (by omega)
      refine ⟨_, rfl, _, _, rfl, rfl, c6, ((I : Nat) : Int), congrArg (fun z => [V.int z]) e2, by omega, by omega, for_range (lo := 0) (n := I) (fun k σ H' => ∃ y7, σ = [some (.int (n : Int)), some (.int ((1 : Int) * 2 ^ (((1 : Int) * 2 ^ ((n : Int).toNat)).toNat) - 1)), some (.ref cl), some (.int (0 + (i : Int))), some (.int (w : Int)), some (.int (B2 : Int)), some (.int ((C k : Nat) : Int)), y7] ∧ H' = H)
        ⟨_, by rw [c0]; rfl, rfl⟩ ?_ ?_⟩
      · rintro k σ H' hk ⟨y7', rfl, rfl⟩
        have e4 : (2 : Int) * (w : Int) * (0 + (k : Int)) = ((2 * w * k : Nat) : Int) := by
          rw [Int.zero_add]
          norm_cast
        have lk : 2 * w * k ≤ 4096 * 4096 := Nat.mul_le_mul (by omega) (by omega)
        have c7 : CShl (B2 : Int) ((2 : Int) * (w : Int) * (0 + (k : Int))) := by
          rw [e4]
          exact shl_ok (n := 4096) b128 (by omega)
        refine ⟨_, rfl, _, rfl, _, rfl, _, _, rfl, rfl, .inl ⟨by decide, by decide⟩, _, rfl, _, _, rfl, rfl, .inl ⟨by omega, by omega⟩, _, _, rfl, rfl, c7, _, _, rfl, rfl, some (V.int (0 + (k : Int))), ?_, rfl⟩
        show [_, _, _, _, _, _, some (V.int (Builtin.bitOr (C k : Int) ((B2 : Int) * 2 ^ (((2 : Int) * (w : Int) * (0 + (k : Int))).toNat)))), _] = _
        have e5 : (B2 : Int) * 2 ^ (((2 : Int) * (w : Int) * (0 + (k : Int))).toNat) = ((B2 * 2 ^ (2 * w * k) : Nat) : Int) := by
          rw [e4, Int.toNat_natCast]
          norm_cast
        rw [e5, or_nat, ← step k]
      · rintro σ H' ⟨y7', rfl, rfl⟩
        have lcs : cs.length = i := by rw [ecs, List.length_map, List.length_range]
        refine ⟨_, rfl, .inl ⟨rfl, _, .inl (.inl ecl)⟩, _, rfl, cl, iv cs, _, rfl, rfl, ecl, (by rw [iv_len, lcs]; exact small1000 (by omega)), cs ++ [C I], _, _, _, _, _, rfl, same_mut s1 ncl, ?_, ?_⟩
        · rw [upd_same]
          simp [iv]
        · rw [List.range_succ, List.map_append, ecs]
          rw [eC, eI]
          rfl
    · rintro σ H ⟨cs, y3, y4, y5, y6, y7, rfl, s1, ecl, ecs⟩
      have eW : (1 : Int) * 2 ^ (((1 : Int) * 2 ^ ((n : Int).toNat)).toNat) - 1 = ((2 ^ 2 ^ n - 1 : Nat) : Int) := by
        rw [shl_one, shl_one, Int.ofNat_sub (Nat.two_pow_pos _)]
        rfl
      refine ⟨_, rfl, _, rfl, _, rfl, cl, _, rfl, .inl ⟨.inl (.inl ecl), fun t2 nt2 => ⟨(by show 3 ≤ sizeLine; decide), fun q nq => ?_⟩⟩⟩
      rw [eW]
      have s2 := (same_new (o := .tup (iv cs)) nt2).trans (same_new (o := .tup [V.int (n : Int), V.int ((2 ^ 2 ^ n - 1 : Nat) : Int), V.ref t2]) nq)
      refine kk _ _ (s1.trans s2) ⟨q, t2, cs, rfl, .inl (.inl upd_same), .inl (.inl (same_new nq _ _ upd_same)), by rw [ecs, List.length_map, List.length_range], fun u hu => ?_⟩
      have e6 : cs.getD u 0 = col (n - 1 - u) (2 ^ u) := by
        rw [ecs, List.getD_eq_getElem?_getD, List.getElem?_map, List.getElem?_range hu]
        rfl
      rw [e6]
      exact col_is hu
end
end Es
set_option Elab.async false
set_option linter.all false
set_option maxRecDepth 100000
set_option maxHeartbeats 4000000
namespace Es
open PySem PySem.Spec PyProof.Rows L2
section
variable {P : Program} {w : World} {K : PySem.W.Frag} {mg : Str → Option Value} {base : Heap}
theorem ok_law_bits {f : Addr} {fd : FuncData} (F : Fun K "_law_bits" "_law_bits" s_law_bits f fd) (T : Txt mg)  : FnG P w K mg base 1 f fd ["room", "place"] (sp_law_bitsZ K) := by
  refine okG F sc_law_bits (fun h => ?_) (fun cdv B out t0 G ys R E hr hg h => ?_)
  · obtain ⟨v, n, s, rfl, _⟩ := h
    rfl
  · obtain ⟨v, n, s, rfl, hR, n7, kk⟩ := h
    refine ⟨_, (pss_one
        (ps_ret (pe_callTy call_tuple_of (by rfl) T.z_tuple (by decide +kernel) (pa_cons (pe_lc (own := [("unknown", 2)]) rfl sc_law_bits.nd (pi_range1 (by rfl) T.z_range (pa_cons (pe_ix ix_tup (pv 0) pe_int (fun _ _ => rfl)) pa_nil)) (blkOk_by (own := [("unknown", 2)]) (N := ["room", "place", "unknown"]) (sc := defScope s_law_bits) (by decide +kernel)) (fun _ _ _ _ _ => (pg_name (i := 2) sc_law_bits.nd rfl (.inl rfl))) (fun _ _ _ _ _ => pts_nil) (fun _ _ _ _ _ => (pe_op op_and (pe_op op_shr (pv 1) (pe_op op_sub (pe_op op_sub (pe_ix (r := rIxT K) ix_tup (pv 0) pe_int (fun _ _ => rfl)) pe_int) (pv 2))) pe_int))) pa_nil)))), ?_⟩
    obtain ⟨t, c, cs, rfl, ht, hc, lcs, hcs⟩ := hR
    refine ⟨_, rfl, t, _, 0, _, rfl, rfl, ht, atI_nat (j := 0) rfl, (n : Int), rfl, by omega, by omega, fun D hD => ?_⟩
    refine lc_range (lo := 0) (n := n) (fun i H => H D = some (.lst (iv ((bitsS n s).take i))) ∧ Same G H) ⟨upd_same, same_new hD⟩ ?_ ?_
    · rintro i H hi ⟨eD, s1⟩
      have e0 : (0 : Int) + (i : Int) = (i : Int) := Int.zero_add _
      rw [e0]
      have ej : (n : Int) - 1 - (i : Int) = ((n - 1 - i : Nat) : Int) := by omega
      refine ⟨rfl, _, rfl, _, rfl, t, _, 0, _, rfl, rfl, sqT_same s1 ht, atI_nat (j := 0) rfl, _, _, rfl, rfl, _, rfl, _, _, rfl, rfl, _, _, rfl, rfl, by omega, _, _, rfl, rfl, _, eD, ?_, ?_, same_mut s1 hD⟩
      · rw [iv_len, List.length_take]
        exact small1000 (by omega)
      · rw [upd_same]
        have sa := shr_and s (n - 1 - i)
        rw [← ej] at sa
        have hl : i < (bitsS n s).length := by rw [bitsS_len]; exact hi
        have eb : (bitsS n s)[i] = if s.testBit (n - 1 - i) = true then 1 else 0 := by simp [bitsS]
        rw [List.take_succ_eq_append_getElem hl, eb]
        dsimp only
        rw [sa]
        split <;> simp [iv]
    · rintro H ⟨eD, s1⟩
      have e : (bitsS n s).take n = bitsS n s := List.take_of_length_le (by rw [bitsS_len]; exact Nat.le_refl _)
      rw [e] at eD
      refine ⟨D, _, rfl, .inl ⟨.inl (.inl eD), fun q nq => ?_⟩⟩
      exact kk _ q (s1.trans (same_new nq)) (s1.free nq) (.inl (.inl upd_same))
end
end Es
set_option Elab.async false
set_option linter.all false
set_option maxRecDepth 100000
set_option maxHeartbeats 4000000
namespace Es
open PySem PySem.Spec PyProof.Rows L2
section
variable {P : Program} {w : World} {K : PySem.W.Frag} {mg : Str → Option Value} {base : Heap}
theorem ok_law_least {f : Addr} {fd : FuncData} (F : Fun K "_law_least" "_law_least" s_law_least f fd) (T : Txt mg) (c_law_bits : CalleeOf P w K mg base 1 "_law_bits" ["room", "place"] (sp_law_bitsZ K)) : FnG P w K mg base 2 f fd ["room", "some"] (sp_law_leastZ K) := by
  refine okG F sc_law_least (fun h => ?_) (fun cdv B out t0 G ys R E hr hg h => ?_)
  · obtain ⟨v, n, x, rfl, _⟩ := h
    rfl
  · obtain ⟨v, n, x, rfl, hR, n7, k0, k1⟩ := h
    refine ⟨_, (pss_one
        (ps_ret (pe_ifExp (pt_cmpR op_gt (pv 1) pe_int (nomark _)) (pe_callC c_law_bits (hr.mono (by decide)) hg (by rfl) (pa_cons (pv 0) (pa_cons (pe_op op_sub (pe_bits (pe_op op_and (pv 1) (pe_un un_neg (pv 1)))) pe_int) pa_nil))) pe_non))), ?_⟩
    refine ⟨_, rfl, _, _, rfl, rfl, _, rfl, ite2 (fun hc => ?_) (fun hc => ?_)⟩
    · have x0 : x ≠ 0 := by have := of_decide_eq_true hc; omega
      obtain ⟨s, h2, h3⟩ := least_bit x0
      have es : (Builtin.Int.intBits (Builtin.bitAnd (x : Int) (-(x : Int))) : Int) - 1 = (s : Int) := by
        rw [and_negG h2 h3, bits_pow]
        omega
      refine ⟨_, rfl, _, rfl, _, rfl, _, rfl, _, _, rfl, rfl, _, rfl, _, _, rfl, rfl, v, n, s, ?_, hR, n7, fun H1 t s1 nt ht => k1 s h2 h3 H1 (.ref t) s1 ⟨t, rfl, ht⟩⟩
      show [v, V.int ((Builtin.Int.intBits (Builtin.bitAnd (x : Int) (-(x : Int))) : Int) - 1)] = _
      rw [es]
    · have x0 : x = 0 := by
        by_cases z : x = 0
        · exact z
        · exact absurd (decide_eq_true (by omega)) hc
      exact k0 x0
end
end Es
set_option Elab.async false
set_option linter.all false
set_option maxRecDepth 100000
set_option maxHeartbeats 4000000
namespace Es
open PySem PySem.Spec PyProof.Rows L2
section
variable {P : Program} {w : World} {K : PySem.W.Frag} {mg : Str → Option Value} {base : Heap}
theorem ok_law_listed {f : Addr} {fd : FuncData} (F : Fun K "_law_listed" "_law_listed" s_law_listed f fd) (T : Txt mg) (c_law_least : CalleeOf P w K mg base 2 "_law_least" ["room", "some"] (sp_law_leastZ K)) : FnG P w K mg base 3 f fd ["room", "some"] (sp_law_listedZ K) := by
  refine okG F sc_law_listed (fun h => ?_) (fun cdv B out t0 G ys R E hr hg h => ?_)
  · obtain ⟨v, n, x, rfl, _⟩ := h
    rfl
  · obtain ⟨v, n, x, rfl, hR, n7, hx, kk⟩ := h
    refine ⟨_, (pss_cons
        (ps_set (i := 2) sc_law_listed.nd rfl (Or.inl rfl) (pe_lst pa_nil))
        (pss_cons
        (ps_while PassesOwn.never (pt_cmpR op_gt (pv 1) pe_int (nomark _))
        (pss_cons
          (ps_expr (pe_bm PySem.F.plainAttrs_list PySem.F.slot_list_append PySem.F.type_list_append mt_append (pv 2) (pa_cons (pe_callC c_law_least (hr.mono (by decide)) hg (by rfl) (pa_cons (pv 0) (pa_cons (pv 1) pa_nil))) pa_nil)))
          (pss_one
          (ps_set (i := 1) sc_law_listed.nd rfl (Or.inl rfl) (pe_op op_and (pv 1) (pe_op op_sub (pv 1) pe_int))))))
        (pss_one
        (ps_ret (pv 2))))), ?_⟩
    have hn : 2 ^ n ≤ 4096 := Nat.pow_le_pow_right (n := 2) (j := 12) (by decide) n7
    refine ⟨Nat.zero_le _, fun D hD => ?_⟩
    refine ⟨fun k σ H => ∃ (c y : Nat) (us : List V), k = 2 ^ n - c ∧ c ≤ 2 ^ n ∧ σ = [some v, some (.int (y : Int)), some (.ref D)] ∧ Same G H ∧ H D = some (.lst us) ∧ Paired (BitsV K n H) us ((List.range c).filter fun s => x.testBit s) ∧ ∀ s, y.testBit s = (x.testBit s && decide (c ≤ s)),
      ⟨2 ^ n, 0, x, [], (Nat.sub_zero _).symm, Nat.zero_le _, rfl, same_new hD, upd_same, .nil, fun s => by rw [decide_eq_true (Nat.zero_le s), Bool.and_true]⟩, ?_⟩
    rintro k σ H ⟨c, y, us, rfl, hc, rfl, s1, eD, P, hy⟩
    have ylt : ∀ s, y.testBit s = true → s < 2 ^ n := fun s h => by
      refine Nat.lt_of_not_le fun z => ?_
      rw [hy, Nat.testBit_lt_two_pow (Nat.lt_of_lt_of_le hx (Nat.pow_le_pow_right (by decide) z))] at h
      cases h
    have lus : us.length ≤ c := by
      rw [Paired.len P]
      exact Nat.le_trans (List.length_filter_le _ _) (by rw [List.length_range]; exact Nat.le_refl _)
    refine ⟨_, rfl, _, _, rfl, rfl, _, rfl, ite2 (fun hc' => ?_) (fun hc' => ?_)⟩
    · have y0 : y ≠ 0 := by have := of_decide_eq_true hc'; omega
      refine ⟨fun σ' H' => ∃ (c' y : Nat) (us : List V), c < c' ∧ c' ≤ 2 ^ n ∧ σ' = [some v, some (.int (y : Int)), some (.ref D)] ∧ Same G H' ∧ H' D = some (.lst us) ∧ Paired (BitsV K n H') us ((List.range c').filter fun s => x.testBit s) ∧ ∀ s, y.testBit s = (x.testBit s && decide (c' ≤ s)), fun σ' H' hN => ?_, ?_⟩
      · obtain ⟨c', y', us', g1, g2, rfl, g3, g4, g5, g6⟩ := hN
        exact ⟨2 ^ n - c', by omega, c', y', us', rfl, g2, rfl, g3, g4, g5, g6⟩
      refine ⟨_, rfl, .inl ⟨rfl, _, .inl (.inl eD)⟩, _, rfl, _, rfl, v, n, y, rfl, hR.same s1, n7, (fun z => absurd z y0), fun s h2 h3 H2 u s2 hu => ?_⟩
      have sn := ylt s h2
      have eD2 := s2 _ _ eD
      have hs := hy s
      rw [h2] at hs
      have hs1 : x.testBit s = true := by
        cases q : x.testBit s with
        | true => rfl
        | false => rw [q] at hs; cases hs
      have hs2 : c ≤ s := by
        rw [hs1, Bool.true_and] at hs
        exact of_decide_eq_true hs.symm
      have gap : (List.range (s + 1)).filter (fun s => x.testBit s) = (List.range c).filter (fun s => x.testBit s) ++ [s] := by
        rw [List.range_succ, List.filter_append]
        congr 1
        · have go : ∀ d, c + d ≤ s → (List.range (c + d)).filter (fun s => x.testBit s) = (List.range c).filter (fun s => x.testBit s) := by
            intro d
            induction d with
            | zero => intro _; rfl
            | succ d ih =>
              intro hd
              rw [← Nat.add_assoc, List.range_succ, List.filter_append, ih (by omega)]
              have h4 := h3 (c + d) (by omega)
              rw [hy, decide_eq_true (show c ≤ c + d by omega), Bool.and_true] at h4
              simp [h4]
          have := go (s - c) (by omega)
          rwa [Nat.add_sub_cancel' hs2] at this
        · simp [hs1]
      refine ⟨D, us, u, rfl, rfl, eD2, small5000 (by omega), _, rfl, _, rfl, _, _, rfl, rfl, _, _, rfl, rfl, s + 1, y &&& (y - 1), us ++ [u], by omega, by omega, ?_, same_mut (s1.trans s2) hD, upd_same, ?_, fun j => ?_⟩
      · show [some v, some (V.int (Builtin.bitAnd (y : Int) ((y : Int) - 1))), _] = _
        have e : (y : Int) - 1 = ((y - 1 : Nat) : Int) := by omega
        rw [e, and_nat]
      · rw [gap]
        exact PySem.Paired.snoc (Paired.mono2 (fun _ _ z => (z.same s2).but eD2 But.at_) P) (hu.but eD2 But.at_)
      · rw [and_pred h2 h3 j, hy j]
        cases q : x.testBit j with
        | false => rfl
        | true =>
          rw [Bool.true_and, Bool.true_and]
          have h4 : c ≤ j → j < s → False := fun a b => by
            have h5 := h3 j b
            rw [hy, q, decide_eq_true a] at h5
            cases h5
          by_cases z1 : s + 1 ≤ j
          · rw [decide_eq_true z1, decide_eq_true (show c ≤ j by omega), decide_eq_true (show j ≠ s by omega)]
            rfl
          · rw [decide_eq_false z1]
            by_cases z2 : c ≤ j
            · have : j = s := by
                refine Classical.byContradiction fun w => h4 z2 (by omega)
              rw [decide_eq_false (show ¬ j ≠ s from fun w => w this), Bool.and_false]
            · rw [decide_eq_false z2]
              rfl
    · have y0 : y = 0 := by
        by_cases z : y = 0
        · exact z
        · exact absurd (decide_eq_true (by omega)) hc'
      have all_ : (List.range (2 ^ n)).filter (fun s => x.testBit s) = (List.range c).filter (fun s => x.testBit s) := by
        have go : ∀ d, (List.range (c + d)).filter (fun s => x.testBit s) = (List.range c).filter (fun s => x.testBit s) := by
          intro d
          induction d with
          | zero => rfl
          | succ d ih =>
            rw [← Nat.add_assoc, List.range_succ, List.filter_append, ih]
            have h4 := hy (c + d)
            rw [y0, Nat.zero_testBit, decide_eq_true (show c ≤ c + d by omega), Bool.and_true] at h4
            simp [← h4]
        have := go (2 ^ n - c)
        rwa [Nat.add_sub_cancel' hc] at this
      refine ⟨_, rfl, kk H D us s1 hD eD ?_⟩
      rw [all_]
      exact P
end
end Es
set_option Elab.async false
set_option linter.all false
set_option maxRecDepth 100000
set_option maxHeartbeats 4000000
namespace Es
open PySem PySem.Spec PyProof.Rows L2
section
variable {P : Program} {w : World} {K : PySem.W.Frag} {mg : Str → Option Value} {base : Heap}
theorem ok_law_held {f : Addr} {fd : FuncData} (F : Fun K "_law_held" "_law_held" s_law_held f fd) (T : Txt mg)  : FnG P w K mg base 1 f fd ["room", "line"] (sp_law_heldZ K) := by
  refine okG F sc_law_held (fun h => ?_) (fun cdv B out t0 G ys R E hr hg h => ?_)
  · obtain ⟨v, u, n, l, rfl, _⟩ := h
    rfl
  · obtain ⟨v, u, n, l, rfl, hR, n7, hL, l1, l2, kk⟩ := h
    refine ⟨_, (pss_cons
        (ps_set (i := 2) sc_law_held.nd rfl (Or.inl rfl) pe_int)
        (pss_cons
        (ps_for PassesOwn.never rfl (pi_tup (pe_ix ix_tup (pv 1) pe_int (fun _ _ => rfl))) (pg_name (i := 3) sc_law_held.nd rfl (.inl rfl))
        (pss_one
          (ps_set (i := 2) sc_law_held.nd rfl (Or.inl rfl) (pe_op op_xor (pv 2) (pe_ix ix_tup (pe_ix ix_tup (pv 0) pe_int (fun _ _ => rfl)) (pv 3) (fun _ _ => rfl))))))
        (pss_one
        (ps_ret (pe_ifExp (pt_cmpR op_eq (pe_ix ix_tup (pv 1) pe_int (fun _ _ => rfl)) pe_int (nomark _)) (pv 2) (pe_op op_xor (pe_ix ix_tup (pv 0) pe_int (fun _ _ => rfl)) (pv 2))))))), ?_⟩
    obtain ⟨t, c, cs, rfl, ht, hc, lcs, hcs⟩ := hR
    obtain ⟨tl, rl, rfl, htl, ⟨pr, rfl, hpr⟩⟩ := hL
    refine ⟨_, rfl, tl, _, 0, _, rfl, rfl, htl, atI_nat (j := 0) rfl, pr, rfl, ⟨_, hpr⟩, for_tup (K := K) (a := pr) (xs := iv (bts l.1))
      (fun i σ H => ∃ x y3, σ = [some (.ref t), some (.ref tl), some (.int ((x : Nat) : Int)), y3] ∧ H = G ∧ BitsOf (2 ^ n) x (fun s => ((bts l.1).take i).foldl (fun b u => b ^^ fS n s u) false))
      ⟨0, _, rfl, rfl, BitsOf.none _⟩ (fun i σ H _ ⟨_, _, _, e, _⟩ => by rw [e]; exact hpr) ?_ ?_⟩
    · rintro i x σ H hi ⟨y, y3, rfl, rfl, hy⟩
      obtain ⟨u, hu1, rfl⟩ := iv_get hi
      have hil := (List.getElem?_eq_some_iff.mp hu1).1
      have hun : u < n := bits_below l1 (List.mem_of_getElem? hu1)
      have at1 : atI (iv cs) (u : Int) = some (.int ((cs.getD u 0 : Nat) : Int)) := by
        refine atI_nat ?_
        unfold iv
        rw [List.getElem?_map, List.getElem?_eq_getElem (by omega), List.getD_eq_getElem?_getD, List.getElem?_eq_getElem (by omega)]
        rfl
      refine ⟨_, rfl, _, rfl, t, _, 2, _, rfl, rfl, ht, atI_nat (j := 2) rfl, _, rfl, c, _, _, _, rfl, rfl, hc, at1, _, _, rfl, rfl, y ^^^ cs.getD u 0, some (V.int (u : Int)), ?_, rfl, ?_⟩
      · show [some (V.ref t), some (V.ref tl), some (V.int (Builtin.bitXor (y : Int) ((cs.getD u 0 : Nat) : Int))), _] = _
        rw [xor_nat]
      · refine (hy.xor (hcs u hun)).congr fun s _ => ?_
        rw [List.take_succ_eq_append_getElem hil, (List.getElem?_eq_some_iff.mp hu1).2, List.foldl_append]
        rfl
    · rintro σ H ⟨y, y3, rfl, rfl, hy⟩
      rw [iv_len, List.take_length] at hy
      have hp : BitsOf (2 ^ n) y (fun s => par l.1 (fS n s)) := hy.congr fun s _ => (par_bts _ _).symm
      refine ⟨_, rfl, tl, _, 1, _, rfl, rfl, htl, atI_nat (j := 1) rfl, rfl, _, rfl, ite2 (fun hc => ?_) (fun hc => ?_)⟩
      · have z : l.2 = 1 := by have := V.int.inj (of_decide_eq_true hc); omega
        refine ⟨_, rfl, kk y (hp.congr fun s _ => ?_)⟩
        unfold holdsB
        rw [decide_eq_true z]
        cases par l.1 (fS n s) <;> rfl
      · have z : ¬ l.2 = 1 := fun z => hc (decide_eq_true (by rw [z]; rfl))
        refine ⟨_, rfl, t, _, 1, _, rfl, rfl, ht, atI_nat (j := 1) rfl, _, rfl, _, _, rfl, rfl, ?_⟩
        have hw := ((BitsOf.all (2 ^ n)).xor hp).congr (q := fun s => holdsB l (fS n s)) fun s _ => by
          unfold holdsB
          rw [decide_eq_false z]
          cases par l.1 (fS n s) <;> rfl
        have hk := kk _ hw
        rw [← xor_nat] at hk
        exact hk
end
end Es
set_option Elab.async false
set_option linter.all false
set_option maxRecDepth 100000
set_option maxHeartbeats 4000000
namespace Es
open PySem PySem.Spec PyProof.Rows L2
section
variable {P : Program} {w : World} {K : PySem.W.Frag} {mg : Str → Option Value} {base : Heap}
theorem ok_law_kept {f : Addr} {fd : FuncData} (F : Fun K "_law_kept" "_law_kept" s_law_kept f fd) (T : Txt mg) (c_law_held : CalleeOf P w K mg base 1 "_law_held" ["room", "line"] (sp_law_heldZ K)) : FnG P w K mg base 2 f fd ["room", "clause"] (sp_law_keptZ K) := by
  refine okG F sc_law_kept (fun h => ?_) (fun cdv B out t0 G ys R E hr hg h => ?_)
  · obtain ⟨v, u, n, ls, rfl, _⟩ := h
    rfl
  · obtain ⟨v, u, n, ls, rfl, hR, n7, ⟨t, us, rfl, ht, hP⟩, hl, kk⟩ := h
    refine ⟨_, (pss_cons
        (ps_set (i := 2) sc_law_kept.nd rfl (Or.inl rfl) pe_int)
        (pss_cons
        (ps_for PassesOwn.never rfl (pi_tup (pv 1)) (pg_name (i := 3) sc_law_kept.nd rfl (.inl rfl))
        (pss_one
          (ps_set (i := 2) sc_law_kept.nd rfl (Or.inl rfl) (pe_op op_or (pv 2) (pe_callC c_law_held (hr.mono (by decide)) hg (by rfl) (pa_cons (pv 0) (pa_cons (pv 3) pa_nil)))))))
        (pss_one
        (ps_ret (pv 2))))), ?_⟩
    have hR' := hR
    obtain ⟨tr, c, cs, rfl, htr, hc, lcs, hcs⟩ := hR
    have lenP : us.length = ls.length := Paired.len hP
    refine ⟨_, rfl, t, rfl, ⟨us, ht⟩, for_tup (K := K) (a := t) (xs := us)
      (fun i σ H => ∃ x y3, σ = [some (.ref tr), some (.ref t), some (.int ((x : Nat) : Int)), y3] ∧ H = G ∧ BitsOf (2 ^ n) x (fun s => (ls.take i).any fun l => holdsB l (fS n s)))
      ⟨0, _, rfl, rfl, BitsOf.none _⟩ (fun i σ H _ ⟨_, _, _, e, _⟩ => by rw [e]; exact ht) ?_ ?_⟩
    · rintro i x σ H hi ⟨y, y3, rfl, rfl, hy⟩
      obtain ⟨l, hli, hx⟩ := Paired.get hP hi
      have hil := (List.getElem?_eq_some_iff.mp hli).1
      obtain ⟨l1, l2⟩ := hl l (List.mem_of_getElem? hli)
      refine ⟨_, rfl, _, rfl, _, rfl, .ref tr, x, n, l, rfl, hR', n7, hx, l1, l2, fun z hz => ?_⟩
      refine ⟨_, _, rfl, rfl, y ||| z, some x, ?_, rfl, ?_⟩
      · show [some (V.ref tr), some (V.ref t), some (V.int (Builtin.bitOr (y : Int) (z : Int))), _] = _
        rw [or_nat]
      · refine (hy.or hz).congr fun s _ => ?_
        rw [List.take_succ_eq_append_getElem hil, (List.getElem?_eq_some_iff.mp hli).2, List.any_append]
        simp
    · rintro σ H ⟨y, y3, rfl, rfl, hy⟩
      rw [lenP, List.take_length] at hy
      exact ⟨_, rfl, kk y hy⟩
end
end Es
set_option Elab.async false
set_option linter.all false
set_option maxRecDepth 100000
set_option maxHeartbeats 4000000
namespace Es
open PySem PySem.Spec PyProof.Rows L2
section
variable {P : Program} {w : World} {K : PySem.W.Frag} {mg : Str → Option Value} {base : Heap}
theorem ok_law_all_kept {f : Addr} {fd : FuncData} (F : Fun K "_law_all_kept" "_law_all_kept" s_law_all_kept f fd) (T : Txt mg) (c_law_kept : CalleeOf P w K mg base 2 "_law_kept" ["room", "clause"] (sp_law_keptZ K)) : FnG P w K mg base 3 f fd ["room", "clauses"] (sp_law_all_keptZ K) := by
  refine okG F sc_law_all_kept (fun h => ?_) (fun cdv B out t0 G ys R E hr hg h => ?_)
  · obtain ⟨v, a, us, n, cs, rfl, _⟩ := h
    rfl
  · obtain ⟨v, a, us, n, cs, rfl, hR, n7, ha, hP, ok, k⟩ := h
    refine ⟨_, (pss_cons
        (ps_set (i := 2) sc_law_all_kept.nd rfl (Or.inl rfl) (pe_ix ix_tup (pv 0) pe_int (fun _ _ => rfl)))
        (pss_cons
        (ps_for PassesOwn.never rfl (pi_tup (pv 1)) (pg_name (i := 3) sc_law_all_kept.nd rfl (.inl rfl))
        (pss_one
          (ps_set (i := 2) sc_law_all_kept.nd rfl (Or.inl rfl) (pe_op op_and (pv 2) (pe_callC c_law_kept (hr.mono (by decide)) hg (by rfl) (pa_cons (pv 0) (pa_cons (pv 3) pa_nil)))))))
        (pss_one
        (ps_ret (pv 2))))), ?_⟩
    have lP := Paired.len hP
    have hR0 := hR
    obtain ⟨t, c, rc, rfl, ht, hc, _⟩ := hR
    refine ⟨_, rfl, t, _, 1, _, rfl, rfl, ht, rfl, ?_⟩
    refine ⟨_, rfl, a, rfl, ⟨us, ha⟩, for_tup (K := K) (a := a) (xs := us) (fun i σ H => ∃ (x : Nat) (y3 : Option V), σ = [some (.ref t), some (.ref a), some (.int (x : Int)), y3] ∧ H = G ∧ BitsOf (2 ^ n) x (fun s => (cs.take i).all fun ls => ls.any fun l => holdsB l (fS n s)))
      ⟨2 ^ 2 ^ n - 1, _, rfl, rfl, ?_⟩ (fun i σ H _ ⟨_, _, _, e, _⟩ => by rw [e]; exact ha) ?_ ?_⟩
    · refine ⟨Nat.sub_lt (Nat.two_pow_pos _) (by decide), fun s hs => ?_⟩
      rw [Nat.testBit_two_pow_sub_one, decide_eq_true hs]
      simp
    · rintro i x σ H hi ⟨m, y3, rfl, rfl, b1, b2⟩
      obtain ⟨ls, hl, hx⟩ := Paired.get hP hi
      obtain ⟨il, ie⟩ := List.getElem?_eq_some_iff.mp hl
      refine ⟨_, rfl, _, rfl, _, rfl, .ref t, x, n, ls, rfl, hR0, n7, hx, ok ls (List.mem_of_getElem? hl), fun z ⟨z1, z2⟩ => ?_⟩
      refine ⟨_, _, rfl, rfl, m &&& z, some x, ?_, rfl, Nat.lt_of_le_of_lt Nat.and_le_left b1, fun s hs => ?_⟩
      · show [some (.ref t), some (.ref a), some (V.int (Builtin.bitAnd (m : Int) (z : Int))), some x] = _
        rw [and_nat]
      · rw [Nat.testBit_and, b2 s hs, z2 s hs, List.take_succ_eq_append_getElem il, ie]
        dsimp only
        rw [List.all_append]
        simp
    · rintro σ H ⟨m, y3, rfl, rfl, b⟩
      rw [lP, List.take_length] at b
      exact ⟨_, rfl, k m b⟩
end
end Es
set_option Elab.async false
set_option linter.all false
set_option maxRecDepth 100000
set_option maxHeartbeats 4000000
namespace Es
open PySem PySem.Spec PyProof.Rows L2
section
variable {P : Program} {w : World} {K : PySem.W.Frag} {mg : Str → Option Value} {base : Heap}
theorem ok_last_unknown {f : Addr} {fd : FuncData} (F : Fun K "_last_unknown" "_last_unknown" s_last_unknown f fd) (T : Txt mg)  : FnG P w K mg base 1 f fd ["clause"] (sp_last_unknown K) := by
  refine okG F sc_last_unknown (fun h => ?_) (fun cdv B out t0 G ys R E hr hg h => ?_)
  · obtain ⟨v, ls, rfl, _⟩ := h
    rfl
  · obtain ⟨v, ls, rfl, ⟨t, us, rfl, ht, hP⟩, ne, l900, k⟩ := h
    refine ⟨_, (pss_one
        (ps_ret (pe_callBK (cr_maxD rfl hr.units) (by rfl) T.z_max (by decide +kernel) (pa_cons (pe_lc (own := [("row", 1), ("bit", 2)]) (g := (gTup K 2 (gCons (gName 1) (gCons (gName 2) gNil)))) rfl sc_last_unknown.nd (pi_tup (pv 0)) (blkOk_by (own := [("row", 1), ("bit", 2)]) (N := ["clause", "row", "bit"]) (sc := defScope s_last_unknown) (by decide +kernel)) (fun _ _ _ _ _ => (pg_tup (by rfl) (pgs_cons (pg_name (i := 1) sc_last_unknown.nd rfl (.inl rfl)) (pgs_cons (pg_name (i := 2) sc_last_unknown.nd rfl (.inl rfl)) pgs_nil)))) (fun _ _ _ _ _ => pts_nil) (fun _ _ _ _ _ => (pe_ix (r := rIxT K) ix_tup (pv 1) (pe_un un_neg pe_int) (fun _ _ => rfl)))) pa_nil) (pk_cons (pe_un un_neg pe_int) pk_nil)))), ?_⟩
    have lP := Paired.len hP
    refine ⟨_, rfl, t, rfl, ⟨us, ht⟩, fun D hD => ?_⟩
    refine lc_tup (K := K) (a := t) (xs := us) (fun i H => H D = some (.lst (((ls.take i).map fun l => (((bts l.1).getLast?.getD 0 : Nat) : Int)).map V.int)) ∧ Same G H) ⟨upd_same, same_new hD⟩ (fun i H _ h => sqT_same h.2 ht) ?_ ?_
    · rintro i x H hi ⟨eD, s⟩
      obtain ⟨l, hl, hx⟩ := Paired.get hP hi
      obtain ⟨il, ie⟩ := List.getElem?_eq_some_iff.mp hl
      obtain ⟨tx, r, rfl, htx, ⟨a, rfl, ha⟩⟩ := hx
      have nb := ne l (List.mem_of_getElem? hl)
      obtain ⟨q, z, eq⟩ : ∃ q z, bts l.1 = q ++ [z] := by
        rcases List.eq_nil_or_concat (bts l.1) with e | ⟨q, z, e⟩
        · exact absurd e nb
        · exact ⟨q, z, by simpa using e⟩
      have ea : atI (iv (bts l.1)) (-1) = some (V.int (((bts l.1).getLast?.getD 0 : Nat) : Int)) := by
        rw [eq, show iv (q ++ [z]) = iv q ++ [V.int (z : Int)] by simp [iv]]
        simp [atI_last]
      refine ⟨tx, _, rfl, sqT_same s htx, rfl, .ref a, _, rfl, _, [], rfl, rfl, rfl, _, rfl, 1, rfl, a, _, -1, _, rfl, rfl, sqT_same s ha, ea, _, eD, small1000 (by rw [List.length_map, List.length_map, List.length_take]; omega), ?_, same_mut s hD⟩
      rw [upd_same, List.take_succ_eq_append_getElem il, ie, List.map_append, List.map_append]
      rfl
    rintro H ⟨eD, s⟩
    rw [lP, List.take_length] at eD
    have := k H s
    unfold lastU at this
    refine ⟨1, rfl, D, _, -1, rfl, rfl, .inl (.inl eD), fun e => ?_, fun y ys e => ?_⟩
    · rw [e] at this
      exact this
    · rw [e] at this
      exact this
end
end Es
set_option Elab.async false
set_option linter.all false
set_option maxRecDepth 100000
set_option maxHeartbeats 4000000
namespace Es
open PySem PySem.Spec PyProof.Rows L2
section
variable {P : Program} {w : World} {K : PySem.W.Frag} {mg : Str → Option Value} {base : Heap}
theorem ok_worth_of {f : Addr} {fd : FuncData} (F : Fun K "worth_of" "worth_of" s_worth_of f fd) (T : Txt mg)  : FnG P w K mg base 1 f fd ["row", "bits"] (sp_worth_of K) := by
  refine okG F sc_worth_of (fun h => ?_) (fun cdv B out t0 G ys R E hr hg h => ?_)
  · obtain ⟨v, b, m, bs, rfl, _⟩ := h
    rfl
  · obtain ⟨v, b, m, bs, rfl, ⟨p, rfl, hp⟩, hb, hlt, k⟩ := h
    refine ⟨_, (pss_one
        (ps_ret (pe_op op_and (pe_callB (cr_sum rfl) (by rfl) T.z_sum (by decide +kernel) (pa_cons (pe_lc (own := [("unknown", 2)]) rfl sc_worth_of.nd (pi_tup (pv 0)) (blkOk_by (own := [("unknown", 2)]) (N := ["row", "bits", "unknown"]) (sc := defScope s_worth_of) (by decide +kernel)) (fun _ _ _ _ _ => (pg_name (i := 2) sc_worth_of.nd rfl (.inl rfl))) (fun _ _ _ _ _ => pts_nil) (fun _ _ _ _ _ => (pe_ix (r := rIxT K) ix_tup (pv 1) (pv 2) (fun _ _ => rfl)))) pa_nil)) pe_int))), ?_⟩
    refine ⟨_, rfl, p, rfl, ⟨_, hp⟩, fun D hD => ?_⟩
    refine lc_tup (K := K) (a := p) (xs := iv (bts m)) (fun i H => H D = some (.lst (iv (((bts m).take i).map fun u => bs.getD u 0))) ∧ Same G H) ⟨upd_same, same_new hD⟩ (fun i H _ h => sqT_same h.2 hp) ?_ ?_
    · rintro i x H hi ⟨ea, sa⟩
      obtain ⟨u, hu1, rfl⟩ := iv_get hi
      have hil := (List.getElem?_eq_some_iff.mp hu1).1
      have hu2 := hlt u (List.mem_of_getElem? hu1)
      have at1 : (iv bs)[u]? = some (.int ((bs.getD u 0 : Nat) : Int)) := by
        unfold iv
        rw [List.getElem?_map, List.getElem?_eq_getElem hu2, List.getD_eq_getElem?_getD, List.getElem?_eq_getElem hu2]
        rfl
      refine ⟨rfl, _, rfl, _, rfl, b, _, _, _, rfl, rfl, sqT_same sa hb, atI_nat at1, iv (((bts m).take i).map fun u => bs.getD u 0), ea, ?_, ?_, same_mut sa hD⟩
      · rw [iv_len, List.length_map, List.length_take]
        have := bts_len m
        exact small1000 (by omega)
      · rw [upd_same, List.take_succ_eq_append_getElem hil, (List.getElem?_eq_some_iff.mp hu1).2]
        simp [iv]
    · rintro H ⟨ea, sa⟩
      rw [iv_len, List.take_length, iv_ints] at ea
      refine ⟨D, _, rfl, .inl (.inl ea), ?_⟩
      rw [sum_nat]
      refine ⟨_, _, rfl, rfl, ?_⟩
      show R (V.int (Builtin.bitAnd _ 1)) H
      rw [and_one]
      exact k H sa
end
end Es
set_option Elab.async false
set_option linter.all false
set_option maxRecDepth 100000
set_option maxHeartbeats 4000000
namespace Es
open PySem PySem.Spec PyProof.Rows L2
section
variable {P : Program} {w : World} {K : PySem.W.Frag} {mg : Str → Option Value} {base : Heap}
theorem ok_holds {f : Addr} {fd : FuncData} (F : Fun K "holds" "holds" s_holds f fd) (T : Txt mg) (c_worth_of : CalleeOf P w K mg base 1 "worth_of" ["row", "bits"] (sp_worth_of K)) : FnG P w K mg base 2 f fd ["line", "bits"] (sp_holds K) := by
  refine okG F sc_holds (fun h => ?_) (fun cdv B out t0 G ys R E hr hg h => ?_)
  · obtain ⟨v, b, l, bs, rfl, _⟩ := h
    rfl
  · obtain ⟨v, b, l, bs, rfl, hv, hb, hlt, kk⟩ := h
    refine ⟨_, (pss_cons
        (ps_asg (pv 0) (pg_tup (by rfl) (pgs_cons (pg_name (i := 2) sc_holds.nd rfl (.inl rfl)) (pgs_cons (pg_name (i := 3) sc_holds.nd rfl (.inl rfl)) pgs_nil))))
        (pss_one
        (ps_ret (pe_cmpR op_eq (pe_callC c_worth_of (hr.mono (by decide)) hg (by rfl) (pa_cons (pv 2) (pa_cons (pv 1) pa_nil))) (pv 3) (nomark _))))), ?_⟩
    obtain ⟨t, r, rfl, ht, hr'⟩ := hv
    refine ⟨_, rfl, t, _, rfl, ht, rfl, _, _, rfl, _, _, rfl, rfl, ?_⟩
    refine ⟨_, rfl, _, rfl, r, b, l.1, bs, rfl, hr', hb, hlt, fun H1 s1 => ?_⟩
    refine ⟨_, rfl, rfl, ?_⟩
    have e : decide (V.int ((wsum l.1 bs % 2 : Nat) : Int) = V.int (l.2 : Int)) = decide (wsum l.1 bs % 2 = l.2) := by
      rw [decide_eq_decide]
      constructor
      · intro z
        have := V.int.inj z
        omega
      · intro z
        rw [z]
    rw [e]
    exact kk _ s1
end
end Es
set_option Elab.async false
set_option linter.all false
set_option maxRecDepth 100000
set_option maxHeartbeats 4000000
namespace Es
open PySem PySem.Spec PyProof.Rows L2
section
variable {P : Program} {w : World} {K : PySem.W.Frag} {mg : Str → Option Value} {base : Heap}
theorem ok_keeps {f : Addr} {fd : FuncData} (F : Fun K "keeps" "keeps" s_keeps f fd) (T : Txt mg) (c_holds : CalleeOf P w K mg base 2 "holds" ["line", "bits"] (sp_holds K)) : FnG P w K mg base 3 f fd ["clause", "bits"] (sp_keeps K) := by
  refine okG F sc_keeps (fun h => ?_) (fun cdv B out t0 G ys R E hr hg h => ?_)
  · obtain ⟨v, b, ls, bs, rfl, _⟩ := h
    rfl
  · obtain ⟨v, b, ls, bs, rfl, ⟨t, us, rfl, ht, hP⟩, hb, rc, k⟩ := h
    refine ⟨_, (pss_cons
        (ps_for PassesOwn.never rfl (pi_tup (pv 0)) (pg_name (i := 2) sc_keeps.nd rfl (.inl rfl))
        (pss_one
          (ps_if (pt_val (pe_callC c_holds (hr.mono (by decide)) hg (by rfl) (pa_cons (pv 2) (pa_cons (pv 1) pa_nil))))
          (pss_one
            (ps_ret pe_bl))
          pss_nil)))
        (pss_one
        (ps_ret pe_bl))), ?_⟩
    have lP := Paired.len hP
    refine ⟨_, rfl, t, rfl, ⟨us, ht⟩, for_tup (K := K) (a := t) (xs := us) (fun i σ H => ∃ y2, σ = [some (.ref t), some (.ref b), y2] ∧ Same G H ∧ keptB bs (ls.take i) = false) ⟨_, rfl, Same.refl G, by simp [keptB]⟩ (fun i σ H _ ⟨_, _, s, _⟩ => sqT_same s ht) ?_ ?_⟩
    · rintro i x σ H hi ⟨y2, rfl, s, no⟩
      obtain ⟨l, hl, hx⟩ := Paired.get hP hi
      obtain ⟨il, ie⟩ := List.getElem?_eq_some_iff.mp hl
      have lm := List.mem_of_getElem? hl
      have tk : keptB bs (ls.take (i + 1)) = decide (wsum l.1 bs % 2 = l.2) := by
        rw [List.take_succ_eq_append_getElem il, ie]
        unfold keptB at no ⊢
        rw [List.any_append, no]
        simp
      refine ⟨_, rfl, _, rfl, x, b, l, bs, rfl, hx.same s, sqT_same s hb, rc l lm, fun H1 s1 => ⟨_, rfl, ite2 (fun c => ?_) (fun c => ?_)⟩⟩
      · have e : keptB bs ls = true := List.any_eq_true.mpr ⟨l, lm, c⟩
        have := k H1 (s.trans s1)
        rw [e] at this
        exact this
      · exact ⟨_, rfl, s.trans s1, by rw [tk]; exact Bool.eq_false_iff.mpr c⟩
    · rintro σ H ⟨y2, rfl, s, no⟩
      rw [lP, List.take_length] at no
      have := k H s
      rw [no] at this
      exact this
end
end Es
set_option Elab.async false
set_option linter.all false
set_option maxRecDepth 100000
set_option maxHeartbeats 4000000
namespace Es
open PySem PySem.Spec PyProof.Rows L2
section
variable {P : Program} {w : World} {K : PySem.W.Frag} {mg : Str → Option Value} {base : Heap}
theorem ok_keeps_all {f : Addr} {fd : FuncData} (F : Fun K "_keeps_all" "_keeps_all" s_keeps_all f fd) (T : Txt mg) (c_keeps : CalleeOf P w K mg base 3 "keeps" ["clause", "bits"] (sp_keeps K)) : FnG P w K mg base 4 f fd ["clauses", "bits"] (sp_keeps_all K) := by
  refine okG F sc_keeps_all (fun h => ?_) (fun cdv B out t0 G ys R E hr hg h => ?_)
  · obtain ⟨a, b, us, cs, bs, rfl, _⟩ := h
    rfl
  · obtain ⟨a, b, us, cs, bs, rfl, ha, hP, hb, rc, k⟩ := h
    refine ⟨_, (pss_cons
        (ps_for PassesOwn.never rfl (pi_list (pv 0)) (pg_name (i := 2) sc_keeps_all.nd rfl (.inl rfl))
        (pss_one
          (ps_if (pt_not (pt_val (pe_callC c_keeps (hr.mono (by decide)) hg (by rfl) (pa_cons (pv 2) (pa_cons (pv 1) pa_nil)))))
          (pss_one
            (ps_ret pe_bl))
          pss_nil)))
        (pss_one
        (ps_ret pe_bl))), ?_⟩
    have lP := Paired.len hP
    refine ⟨_, rfl, a, rfl, ⟨us, ha⟩, for_list (K := K) (a := a) (xs := us) (fun i σ H => ∃ y2, σ = [some (.ref a), some (.ref b), y2] ∧ Same G H ∧ (cs.take i).all (keptB bs) = true) ⟨_, rfl, Same.refl G, by simp⟩ (fun i σ H _ ⟨_, _, s, _⟩ => s.seq ha) ?_ ?_⟩
    · rintro i x σ H hi ⟨y2, rfl, s, ok⟩
      obtain ⟨ls, hl, hx⟩ := Paired.get hP hi
      obtain ⟨il, ie⟩ := List.getElem?_eq_some_iff.mp hl
      have lm := List.mem_of_getElem? hl
      refine ⟨_, rfl, _, rfl, x, b, ls, bs, rfl, hx.same s, sqT_same s hb, rc ls lm, fun H1 s1 => ⟨_, rfl, ?_⟩⟩
      cases c : keptB bs ls with
      | false =>
        refine iteT ?_
        have e : cs.all (keptB bs) = false := List.all_eq_false.mpr ⟨ls, lm, by rw [c]; exact Bool.false_ne_true⟩
        have := k H1 (s.trans s1)
        rw [e] at this
        exact this
      | true =>
        refine iteF ⟨_, rfl, s.trans s1, ?_⟩
        rw [List.take_succ_eq_append_getElem il, ie, List.all_append, ok]
        simp [c]
    · rintro σ H ⟨y2, rfl, s, ok⟩
      rw [lP, List.take_length] at ok
      have := k H s
      rw [ok] at this
      exact this
end
end Es
set_option Elab.async false
set_option linter.all false
set_option maxRecDepth 100000
set_option maxHeartbeats 4000000
namespace Es
open PySem PySem.Spec PyProof.Rows L2
section
variable {P : Program} {w : World} {K : PySem.W.Frag} {mg : Str → Option Value} {base : Heap}
theorem ok_models_of {f : Addr} {fd : FuncData} (F : Fun K "models_of" "models_of" s_models_of f fd) (T : Txt mg) (c_last_unknown : CalleeOf P w K mg base 1 "_last_unknown" ["clause"] (sp_last_unknown K)) (c_keeps_all : CalleeOf P w K mg base 4 "_keeps_all" ["clauses", "bits"] (sp_keeps_all K)) : FnG P w K mg base 5 f fd ["book"] (sp_models_of K) := by
  refine okG F sc_models_of (fun h => ?_) (fun cdv B out t0 G ys R E hr hg h => ?_)
  · obtain ⟨v, n, cs, rfl, _⟩ := h
    rfl
  · obtain ⟨v, n, cs, rfl, ⟨t, c, us, rfl, ht, hc, hP⟩, n12, ok, l900, k⟩ := h
    refine ⟨_, (pss_cons
        (ps_asg (pv 0) (pg_tup (by rfl) (pgs_cons (pg_name (i := 1) sc_models_of.nd rfl (.inl rfl)) (pgs_cons (pg_name (i := 2) sc_models_of.nd rfl (.inl rfl)) pgs_nil))))
        (pss_cons
        (ps_if (pt_cmpR op_gt (pv 1) (pe_globI rfl T.g_MOST_UNKNOWNS) (nomark _))
        (pss_one
          ps_no)
        pss_nil)
        (pss_cons
        (ps_set (i := 3) sc_models_of.nd rfl (Or.inl rfl) (pe_ifExp (pt_cmpR (op_inDT (room65 hr)) (pe_tup pa_nil) (pv 2) (by rfl)) (pe_lst pa_nil) (pe_lst (pa_cons (pe_tup pa_nil) pa_nil))))
        (pss_cons
        (ps_for PassesOwn.never rfl (pi_range1 (by rfl) T.z_range (pa_cons (pv 1) pa_nil)) (pg_name (i := 4) sc_models_of.nd rfl (.inr rfl))
        (pss_cons
          (ps_set (i := 5) sc_models_of.nd rfl (Or.inr rfl) (pe_lc (own := [("clause", 6)]) rfl sc_models_of.nd (pi_tup (pv 2)) (blkOk_by (own := [("clause", 6)]) (N := ["book", "many", "clauses", "found", "unknown", "ripe", "clause", "longer", "bits", "bit"]) (sc := defScope s_models_of) (by decide +kernel)) (fun _ _ _ _ _ => (pg_name (i := 6) sc_models_of.nd rfl (.inl rfl))) (fun _ _ _ _ _ => (pts_one (pt_cmpR op_eq (pe_callC c_last_unknown (hr.mono (by decide)) hg (by rfl) (pa_cons (pv 6) pa_nil)) (pv 4) (nomark _)))) (fun _ _ _ _ _ => (pv 6))))
          (pss_cons
          (ps_setLc2 (i := 7) (own := [("bits", 8), ("bit", 9)]) (vs1 := [9]) (wi1 := iTup K (tTup (tCons (tC (V.int 0)) (tCons (tC (V.int 1)) tNil)))) rfl sc_models_of.nd rfl rfl (sw_true rfl rfl rfl (by decide +kernel)) (pi_list (pv 3)) (blkOk_by (own := [("bits", 8), ("bit", 9)]) (N := ["book", "many", "clauses", "found", "unknown", "ripe", "clause", "longer", "bits", "bit"]) (sc := defScope s_models_of) (by decide +kernel)) (by decide) (fun _ _ _ _ _ => (pg_name (i := 8) sc_models_of.nd rfl (.inl rfl))) (fun _ _ _ _ _ => pts_nil) (fun _ _ _ _ _ => (pi_tup (pe_tup (pa_cons pe_int (pa_cons pe_int pa_nil))))) (fun _ _ _ _ _ => (pg_name (i := 9) sc_models_of.nd rfl (.inl rfl))) (fun _ _ _ _ _ => pts_nil) (fun _ _ _ _ _ => (pe_op (r := rCatA K) op_catA (pv 8) (pe_tup (pa_cons (pv 9) pa_nil)))))
          (pss_one
          (ps_setLc (i := 3) (own := [("bits", 8)]) rfl sc_models_of.nd rfl rfl (sw_true rfl rfl rfl (by decide +kernel)) (pi_list (pv 7)) (blkOk_by (own := [("bits", 8)]) (N := ["book", "many", "clauses", "found", "unknown", "ripe", "clause", "longer", "bits", "bit"]) (sc := defScope s_models_of) (by decide +kernel)) (fun _ _ _ _ _ => (pg_name (i := 8) sc_models_of.nd rfl (.inl rfl))) (fun _ _ _ _ _ => (pts_one (pt_val (pe_callC c_keeps_all (hr.mono (by decide)) hg (by rfl) (pa_cons (pv 5) (pa_cons (pv 8) pa_nil)))))) (fun _ _ _ _ _ => (pv 8)))))))
        (pss_one
        (ps_ret (pv 3))))))), ?_⟩
    have lP := Paired.len hP
    have e02 : ∀ ls ∈ cs, ∀ l ∈ ls, l.2 < 2 := fun ls m l h => ((ok ls m).1 l h).2.1
    refine ⟨_, rfl, t, _, rfl, ht, rfl, .int (n : Int), _, rfl, .ref c, [], rfl, rfl, ?_⟩
    refine ⟨_, rfl, _, _, rfl, rfl, ⟨_, rfl, ?_⟩⟩
    rw [show decide ((12 : Int) < (n : Int)) = false from decide_eq_false (by omega)]
    refine iteF ?_
    refine ⟨Nat.zero_le _, fun e he => ?_⟩
    have r0 := same_new (o := .tup []) he
    have ee : SqT K (upd G e (.tup [])) e [] := .inl (.inl upd_same)
    generalize upd G e (.tup []) = H0 at r0 ee ⊢
    refine ⟨_, rfl, .tuple [], clsD cs, .tup ee .nil, .tup (sqT_same r0 hc) (dpAll_cls (Paired.mono2 (fun _ _ h => LinesV.same r0 h) hP)), nice_shaped rfl (by decide), shaped_cls e02, ?_⟩
    rw [clsD_has]
    refine ⟨_, rfl, ?_⟩
    refine begin_join (K := K) fun H1 p0 z0 s1 np0 e0 hz0 => ?_
    refine ⟨_, rfl, ?_⟩
    refine ⟨(n : Int), rfl, by omega, by omega, for_range (lo := 0) (n := n) (fun i σ H => ∃ p zs y4 y5 y7, σ = [some (.ref t), some (.int (n : Int)), some (.ref c), some (.ref p), y4, y5, none, y7, none, none] ∧ Same G H ∧ G p = none ∧ H p = some (.lst zs) ∧ Paired (BitT K H) zs (modM cs i))
      ⟨p0, z0, _, _, _, rfl, r0.trans s1, same_free r0 np0, e0, hz0⟩ ?_ ?_⟩
    · rintro i σ H hi ⟨p, zs, y4, y5, y7, rfl, s, np, ep, hz⟩
      refine ⟨_, rfl, c, rfl, ⟨us, sqT_same s hc⟩, fun D hD => ?_⟩
      refine lc_tup (K := K) (a := c) (xs := us) (fun j H2 => ∃ ws, H2 D = some (.lst ws) ∧ Same H H2 ∧ Paired (LinesV K H2) ws ((cs.take j).filter fun ls => decide (lastU ls = (i : Int)))) ⟨[], upd_same, same_new hD, .nil⟩ (fun j H2 _ ⟨_, _, s2, _⟩ => sqT_same (s.trans s2) hc) ?_ ?_
      · rintro j x H2 hj ⟨ws, eD, s2, hw⟩
        obtain ⟨ls, hls, hx⟩ := Paired.get hP hj
        obtain ⟨il, ie⟩ := List.getElem?_eq_some_iff.mp hls
        have lm := List.mem_of_getElem? hls
        refine ⟨rfl, _, rfl, x, ls, rfl, hx.same (s.trans s2), fun l hl => ((ok ls lm).1 l hl).2.2, (ok ls lm).2, fun H3 s3 => ?_⟩
        have e3 := s3 _ _ eD
        have ex := List.take_succ_eq_append_getElem il
        rw [ie] at ex
        refine ⟨_, rfl, rfl, _, rfl, ?_⟩
        have q : decide (V.int (lastU ls) = V.int (0 + (i : Int))) = decide (lastU ls = (i : Int)) := by
          rw [Int.zero_add]
          simp
        rw [q, ex, List.filter_append]
        have hw3 := Paired.mono2 (fun _ _ h => LinesV.same s3 h) hw
        cases cc : decide (lastU ls = (i : Int)) with
        | true =>
          have lw := Paired.len hw
          have := List.length_filter_le (fun ls => decide (lastU ls = (i : Int))) (cs.take j)
          rw [List.length_take] at this
          refine iteT ⟨_, rfl, ws, e3, small1000 (by omega), ws ++ [x], upd_same, same_mut (s2.trans s3) hD, ?_⟩
          rw [List.filter_cons, cc]
          exact PySem.Paired.snoc (Paired.mono2 (fun _ _ h => LinesV.but e3 But.at_ h) hw3) (LinesV.but e3 But.at_ (hx.same (s.trans (s2.trans s3))))
        | false =>
          refine iteF ⟨ws, e3, s2.trans s3, ?_⟩
          rw [List.filter_cons, cc]
          show Paired _ ws (_ ++ [])
          rw [List.append_nil]
          exact hw3
      rintro H2 ⟨rp, eD, s2, hrp⟩
      rw [lP, List.take_length] at hrp
      refine ⟨_, rfl, p, rfl, ⟨zs, .inl (.inl (s2 _ _ ep))⟩, fun D2 hD2 => ?_⟩
      have r2 := same_new (o := .lst []) hD2
      have ep2 := (s2.trans r2) _ _ ep
      refine lc2_list (K := K) (a := p) (xs := zs) (fun j H3 => ∃ ws, H3 D2 = some (.lst ws) ∧ Same H2 H3 ∧ Paired (BitT K H3) ws (((modM cs i).take j).flatMap fun bs => [bs ++ [0], bs ++ [1]])) ⟨[], upd_same, r2, .nil⟩ (fun j H3 _ ⟨_, _, s3, _⟩ => .inl (.inl (s3 _ _ (s2 _ _ ep)))) ?_ ?_
      · rintro j x H3 hj ⟨ws, eD2, s3, hw⟩
        obtain ⟨bs, hb, ⟨xb, rfl, hx⟩⟩ := Paired.get hz hj
        obtain ⟨il, ie⟩ := List.getElem?_eq_some_iff.mp hb
        have hx3 := sqT_same (s2.trans s3) hx
        have lM := modM_len cs i
        have p12 : 2 ^ i ≤ 4096 := Nat.le_trans (Nat.pow_le_pow_right (by decide) (show i ≤ 12 by omega)) (by decide)
        have mx := List.take_succ_eq_append_getElem il
        rw [ie] at mx
        refine ⟨rfl, (by show 2 ≤ sizeLine; decide), fun T nT => ⟨T, rfl, ⟨_, .inl (.inl upd_same)⟩, ?_⟩⟩
        have r3 := same_new (o := .tup [V.int 0, V.int 1]) nT
        refine lc2_tup (K := K) (a := T) (xs := iv [0, 1]) (fun m H => ∃ ws, H D2 = some (.lst ws) ∧ Same H2 H ∧ SqT K H T (iv [0, 1]) ∧ Paired (BitT K H) ws ((((modM cs i).take j).flatMap fun bs => [bs ++ [0], bs ++ [1]]) ++ (([0, 1].take m).map fun b => bs ++ [b]))) ⟨ws, r3 _ _ eD2, s3.trans r3, .inl (.inl upd_same), ?_⟩ (fun m H _ ⟨_, _, _, h, _⟩ => h) ?_ ?_
        · show Paired _ ws (_ ++ [])
          rw [List.append_nil]
          exact Paired.mono2 (fun _ _ h => BitT.same r3 h) hw
        · rintro m x H4 hm ⟨ws4, e4, s4, hT, hw4⟩
          obtain ⟨b, hb1, rfl⟩ := iv_get hm
          obtain ⟨bl, be⟩ := List.getElem?_eq_some_iff.mp hb1
          have lw := Paired.len hw4
          have two := two_len (fun bs : List Nat => bs ++ [0]) (fun bs => bs ++ [1]) ((modM cs i).take j)
          rw [List.length_append, two, List.length_map, List.length_take, List.length_take] at lw
          have bl2 : m < 2 := bl
          refine ⟨rfl, _, rfl, _, rfl, (by show 1 ≤ sizeLine; decide), fun e ne => ?_⟩
          have r4 := same_new (o := .tup [V.int ((b : Nat) : Int)]) ne
          refine cat_seq (sqT_same r4 (sqT_same (s2.trans s4) hx)) (.inl (.inl upd_same)) ?_ fun H5 q s5 hq => ?_
          · have lb := modM_bits cs i bs (List.mem_of_getElem? hb)
            rw [iv_len, lb]
            exact Nat.le_of_lt (small1000 (by show i + 1 ≤ 1000; omega))
          have s45 := r4.trans s5
          refine ⟨ws4, s45 _ _ e4, ?_, ws4 ++ [.ref q], upd_same, same_mut (s4.trans s45) hD2, sqT_but (s45 _ _ e4) But.at_ (sqT_same s45 hT), ?_⟩
          · exact Nat.lt_of_le_of_lt (show ws4.length ≤ 2 ^ 14 by omega) (by decide)
          rw [List.take_succ_eq_append_getElem bl, be, List.map_append, ← List.append_assoc]
          refine PySem.Paired.snoc (Paired.mono2 (fun _ _ h => BitT.but (s45 _ _ e4) But.at_ (BitT.same s45 h)) hw4) ⟨q, rfl, ?_⟩
          rw [show iv (bs ++ [b]) = iv bs ++ [V.int ((b : Nat) : Int)] by simp [iv]]
          exact sqT_but (s45 _ _ e4) But.at_ hq
        · rintro H4 ⟨ws4, e4, s4, hT, hw4⟩
          refine ⟨ws4, e4, s4, ?_⟩
          rw [mx, List.flatMap_append]
          exact hw4
      rintro H3 ⟨ls2, eD2, s3, hl2⟩
      rw [show zs.length = (modM cs i).length from Paired.len hz, List.take_length] at hl2
      refine ⟨_, rfl, D2, rfl, ⟨ls2, .inl (.inl eD2)⟩, fun D3 hD3 => ?_⟩
      refine lc_list (K := K) (a := D2) (xs := ls2) (fun j H4 => ∃ ws, H4 D3 = some (.lst ws) ∧ Same H3 H4 ∧ Paired (BitT K H4) ws ((((modM cs i).flatMap fun bs => [bs ++ [0], bs ++ [1]]).take j).filter fun bs => (cs.filter fun ls => decide (lastU ls = (i : Int))).all (keptB bs))) ⟨[], upd_same, same_new hD3, .nil⟩ (fun j H4 _ ⟨_, _, s4, _⟩ => .inl (.inl (s4 _ _ eD2))) ?_ ?_
      · rintro j x H4 hj ⟨ws, eD3, s4, hw⟩
        obtain ⟨bs, hb, ⟨xb, rfl, hx⟩⟩ := Paired.get hl2 hj
        obtain ⟨il, ie⟩ := List.getElem?_eq_some_iff.mp hb
        refine ⟨rfl, _, rfl, _, rfl, D, xb, rp, cs.filter (fun ls => decide (lastU ls = (i : Int))), bs, rfl, .inl (.inl ((s3.trans s4) _ _ eD)), Paired.mono2 (fun _ _ h => LinesV.same (s3.trans s4) h) hrp, sqT_same s4 hx, ?_, fun H5 s5 => ?_⟩
        · intro l hl l2 hl2' u hu
          obtain ⟨hlm, hll⟩ := List.mem_filter.mp hl
          have g := lastU_ge hl2' hu
          rw [of_decide_eq_true hll] at g
          have lb : bs.length = i + 1 := by
            obtain ⟨b0, hb0, hb1⟩ := List.mem_flatMap.mp (List.mem_of_getElem? hb)
            have := modM_bits cs i b0 hb0
            rcases List.mem_cons.mp hb1 with rfl | hb1
            · simp [this]
            · rw [List.mem_singleton.mp hb1]
              simp [this]
          omega
        have mx := List.take_succ_eq_append_getElem il
        rw [ie] at mx
        rw [mx, List.filter_append]
        have e5 := s5 _ _ eD3
        have hw5 := Paired.mono2 (fun _ _ h => BitT.same s5 h) hw
        refine ⟨_, rfl, ?_⟩
        cases cc : (cs.filter (fun ls => decide (lastU ls = (i : Int)))).all (keptB bs) with
        | true =>
          have lw := Paired.len hw
          have := List.length_filter_le (fun bs => (cs.filter fun ls => decide (lastU ls = (i : Int))).all (keptB bs)) (((modM cs i).flatMap fun bs => [bs ++ [0], bs ++ [1]]).take j)
          rw [List.length_take, two_len] at this
          have lM := modM_len cs i
          have p12 : 2 ^ i ≤ 4096 := Nat.le_trans (Nat.pow_le_pow_right (by decide) (show i ≤ 12 by omega)) (by decide)
          refine iteT ⟨_, rfl, ws, e5, Nat.lt_of_le_of_lt (show ws.length ≤ 2 ^ 14 by omega) (by decide), ws ++ [.ref xb], upd_same, same_mut (s4.trans s5) hD3, ?_⟩
          rw [List.filter_cons, cc]
          exact PySem.Paired.snoc (Paired.mono2 (fun _ _ h => BitT.but e5 But.at_ h) hw5) ⟨xb, rfl, sqT_but e5 But.at_ (sqT_same (s4.trans s5) hx)⟩
        | false =>
          refine iteF ⟨ws, e5, s4.trans s5, ?_⟩
          rw [List.filter_cons, cc]
          show Paired _ ws (_ ++ [])
          rw [List.append_nil]
          exact hw5
      rintro H4 ⟨zs4, eD3, s4, hz4⟩
      rw [show ls2.length = _ from Paired.len hl2, List.take_length] at hz4
      have sA := (s.trans s2).trans (s3.trans s4)
      refine ⟨D3, zs4, _, _, _, rfl, sA, same_free (s.trans (s2.trans s3)) hD3, eD3, hz4⟩
    · rintro σ H ⟨p, zs, y4, y5, y7, rfl, s, np, ep, hz⟩
      exact ⟨_, rfl, k H p zs s np ep hz⟩
end
end Es
set_option Elab.async false
set_option linter.all false
set_option maxRecDepth 100000
set_option maxHeartbeats 4000000
namespace Es
open PySem PySem.Spec PyProof.Rows L2
section
variable {P : Program} {w : World} {K : PySem.W.Frag} {mg : Str → Option Value} {base : Heap}
theorem ok_law_alike {f : Addr} {fd : FuncData} (F : Fun K "_law_alike" "_law_alike" s_law_alike f fd) (T : Txt mg)  : FnG P w K mg base 1 f fd ["found", "due"] (sp_law_alike K) := by
  refine okG F sc_law_alike (fun h => ?_) (fun cdv B out t0 G ys R E hr hg h => ?_)
  · obtain ⟨x, y, d, rfl, _⟩ := h
    rfl
  · obtain ⟨x, y, d, rfl, hx, hy, ni, dp, wt, k⟩ := h
    refine ⟨_, (pss_one
        (ps_ret (pe_and (pe_cmpR (op_eqD hr.units) (pv 0) (pv 1) (nomark _)) (pe_one (pe_cmpR op_eq (pe_callB (cr_repr hg hr.units) (by rfl) T.z_repr (by decide +kernel) (pa_cons (pv 0) pa_nil)) (pe_callB (cr_repr hg hr.units) (by rfl) T.z_repr (by decide +kernel) (pa_cons (pv 1) pa_nil)) (nomark _)))))), ?_⟩
    have sh := nice_shaped ni dp
    have e : PyData.eqv d d = true := SeqAt.eqv_refl d (nice_facts d ni).1
    refine ⟨_, rfl, _, rfl, d, d, hx, hy, sh, sh, _, rfl, ?_⟩
    rw [e]
    refine iteT ?_
    refine ⟨_, rfl, x, d, rfl, hx, ni, dp, wt, _, rfl, y, d, rfl, hy, ni, dp, wt, rfl, ?_⟩
    rw [decide_eq_true rfl]
    exact k
end
end Es
set_option Elab.async false
set_option linter.all false
set_option maxRecDepth 100000
set_option maxHeartbeats 4000000
namespace Es
open PySem PySem.Spec PyProof.Rows L2
section
variable {P : Program} {w : World} {K : PySem.W.Frag} {mg : Str → Option Value} {base : Heap}
theorem ok_law_are_models_right {f : Addr} {fd : FuncData} (F : Fun K "_law_are_models_right" "_law_are_models_right" s_law_are_models_right f fd) (T : Txt mg) (c_law_room : CalleeOf P w K mg base 1 "_law_room" ["many"] (sp_law_roomZ K)) (c_law_listed : CalleeOf P w K mg base 3 "_law_listed" ["room", "some"] (sp_law_listedZ K)) (c_law_all_kept : CalleeOf P w K mg base 3 "_law_all_kept" ["room", "clauses"] (sp_law_all_keptZ K)) (c_models_of : CalleeOf P w K mg base 5 "models_of" ["book"] (sp_models_of K)) (c_law_alike : CalleeOf P w K mg base 1 "_law_alike" ["found", "due"] (sp_law_alike K)) : FnG P w K mg base 6 f fd ["book"] (sp_law_are_models_right K) := by
  refine okG F sc_law_are_models_right (fun h => ?_) (fun cdv B out t0 G ys R E hr hg h => ?_)
  · obtain ⟨v, n, cs, rfl, _⟩ := h
    rfl
  · obtain ⟨v, n, cs, rfl, hBK, n12, ok, l900, kk⟩ := h
    refine ⟨_, (pss_cons
        (ps_set (i := 1) sc_law_are_models_right.nd rfl (Or.inl rfl) (pe_callC c_law_room (hr.mono (by decide)) hg (by rfl) (pa_cons (pe_ix ix_tup (pv 0) pe_int (fun _ _ => rfl)) pa_nil)))
        (pss_cons
        (ps_set (i := 2) sc_law_are_models_right.nd rfl (Or.inl rfl) (pe_callC c_law_listed (hr.mono (by decide)) hg (by rfl) (pa_cons (pv 1) (pa_cons (pe_callC c_law_all_kept (hr.mono (by decide)) hg (by rfl) (pa_cons (pv 1) (pa_cons (pe_ix ix_tup (pv 0) pe_int (fun _ _ => rfl)) pa_nil))) pa_nil))))
        (pss_cons
        (ps_for PassesOwn.never rfl (pi_range1 (by rfl) T.z_range (pa_cons pe_int pa_nil)) (pg_name (i := 3) sc_law_are_models_right.nd rfl (.inl rfl))
        (pss_cons
          (ps_set (i := 4) sc_law_are_models_right.nd rfl (Or.inl rfl) (pe_callC c_models_of (hr.mono (by decide)) hg (by rfl) (pa_cons (pv 0) pa_nil)))
          (pss_cons
          (ps_if (pt_not (pt_val (pe_callC c_law_alike (hr.mono (by decide)) hg (by rfl) (pa_cons (pv 4) (pa_cons (pv 2) pa_nil)))))
          (pss_one
            (ps_ret pe_bl))
          pss_nil)
          (pss_one
          (ps_expr (pe_bm PySem.F.plainAttrs_list PySem.F.slot_list_append PySem.F.type_list_append mt_append (pv 4) (pa_cons pe_non pa_nil)))))))
        (pss_one
        (ps_ret pe_bl))))), ?_⟩
    have hBK0 := hBK
    obtain ⟨t, c, us, rfl, ht, hc, hP⟩ := hBK
    have ok2 : ∀ ls ∈ cs, ∀ l ∈ ls, l.1 < 2 ^ n ∧ l.2 < 2 := fun ls h l hl => ⟨((ok ls h).1 l hl).1, ((ok ls h).1 l hl).2.2⟩
    have ok3 : ∀ ls ∈ cs, ∀ l ∈ ls, l.1 < 2 ^ n ∧ l.2 < 2 ∧ bts l.1 ≠ [] := fun ls h l hl => ⟨((ok ls h).1 l hl).1, ((ok ls h).1 l hl).2.2, bts_ne ((ok ls h).1 l hl).1 (by omega) ((ok ls h).1 l hl).2.1⟩
    refine ⟨_, rfl, t, _, 0, .int (n : Int), rfl, rfl, ht, rfl, n, rfl, n12, fun H1 r s1 hR => ?_⟩
    refine ⟨_, rfl, _, rfl, _, rfl, t, _, 1, .ref c, rfl, rfl, sqT_same s1 ht, rfl, r, c, us, n, cs, rfl, hR, n12, sqT_same s1 hc, Paired.mono2 (fun _ _ h => LinesV.same s1 h) hP, ok2, fun x hx => ?_⟩
    refine ⟨r, n, x, rfl, hR, n12, hx.1, fun H2 d ws s2 nd ed PD => ?_⟩
    have s12 := s1.trans s2
    have gd : G d = none := by
      cases q : G d with
      | none => rfl
      | some o =>
        rw [s1 _ _ q] at nd
        cases nd
    have fin : (PyData.list (((List.range (2 ^ n)).filter fun s => x.testBit s).map (bitsD n))) = modD n cs := modD_is ok3 hx
    have len : ((List.range (2 ^ n)).filter fun s => x.testBit s).length ≤ 4096 := by
      have := List.length_filter_le (fun s => x.testBit s) (List.range (2 ^ n))
      have p12 : 2 ^ n ≤ 2 ^ 12 := Nat.pow_le_pow_right (by decide) n12
      rw [List.length_range] at this
      omega
    obtain ⟨f1, f2, f3⟩ := bitsZ_facts n12 _ len
    have lM : (modM cs n).length ≤ 4096 := Nat.le_trans (modM_len cs n) (Nat.le_trans (Nat.pow_le_pow_right (by decide) n12) (by decide))
    refine ⟨2, rfl, by decide, by decide, for_range (lo := 0) (n := 2) (fun i σ H => ∃ y3 y4, σ = [some (.ref t), some r, some (.ref d), y3, y4] ∧ Same H2 H) ⟨_, _, rfl, Same.refl _⟩ ?_ ?_⟩
    · rintro i σ H hi ⟨y3, y4, rfl, s3⟩
      refine ⟨_, rfl, .ref t, n, cs, rfl, hBK0.same (s12.trans s3), n12, (fun ls h => ⟨fun l hl => ⟨((ok ls h).1 l hl).1, ((ok ls h).1 l hl).2.2, (ok3 ls h l hl).2.2⟩, by have := (ok ls h).2; omega⟩), l900, fun H4 p zs s4 np ep PM => ?_⟩
      have s34 := s3.trans s4
      have ed4 := s34 _ _ ed
      have PD4 := Paired.mono2 (fun _ _ h => BitsV.same s34 h) PD
      have dd : Dp K H4 (.ref d) (modD n cs) := by
        rw [← fin]
        exact .lst (.inl (.inl ed4)) (dp_bitsL PD4)
      refine ⟨_, rfl, _, rfl, .ref p, .ref d, modD n cs, rfl, .lst (.inl (.inl ep)) (dp_modM PM), dd, by rw [← fin]; exact f1, by rw [← fin]; exact f2, by rw [← fin]; exact f3, _, rfl, iteF ?_⟩
      have nHp : H2 p = none := by
        cases q : H2 p with
        | none => rfl
        | some o =>
          rw [s3 _ _ q] at np
          cases np
      have lz := Paired.len PM
      exact ⟨_, rfl, .inl ⟨rfl, _, .inl (.inl ep)⟩, p, _, .non, rfl, rfl, ep, small5000 (by omega), _, _, rfl, same_mut s34 nHp⟩
    · rintro σ H ⟨y3, y4, rfl, s3⟩
      exact kk H (s12.trans s3)
end
end Es
set_option Elab.async false
set_option linter.all false
set_option maxRecDepth 100000
set_option maxHeartbeats 4000000
namespace Es
open PySem PySem.Spec PyProof.Rows L2
section
variable {P : Program} {w : World} {K : PySem.W.Frag} {mg : Str → Option Value} {base : Heap}
theorem ok_missed {f : Addr} {fd : FuncData} (F : Fun K "missed" "missed" s_missed f fd) (T : Txt mg) (c_keeps : CalleeOf P w K mg base 3 "keeps" ["clause", "bits"] (sp_keeps K)) : FnG P w K mg base 4 f fd ["book", "bits"] (sp_missed K) := by
  refine okG F sc_missed (fun h => ?_) (fun cdv B out t0 G ys R E hr hg h => ?_)
  · obtain ⟨v, b, n, cs, bs, rfl, _⟩ := h
    rfl
  · obtain ⟨v, b, n, cs, bs, rfl, ⟨t, c, us, rfl, ht, hc, hP⟩, hb, rc, l900, k⟩ := h
    refine ⟨_, (pss_one
        (ps_ret (pe_lc (own := [("index", 2), ("clause", 3)]) (g := (gTup K 2 (gCons (gName 2) (gCons (gName 3) gNil)))) rfl sc_missed.nd (pi_enumT (by rfl) T.z_enumerate (pa_cons (pe_ix ix_tup (pv 0) pe_int (fun _ _ => rfl)) pa_nil)) (blkOk_by (own := [("index", 2), ("clause", 3)]) (N := ["book", "bits", "index", "clause"]) (sc := defScope s_missed) (by decide +kernel)) (fun _ _ _ _ _ => (pg_tup (by rfl) (pgs_cons (pg_name (i := 2) sc_missed.nd rfl (.inl rfl)) (pgs_cons (pg_name (i := 3) sc_missed.nd rfl (.inl rfl)) pgs_nil)))) (fun _ _ _ _ _ => (pts_one (pt_not (pt_val (pe_callC c_keeps (hr.mono (by decide)) hg (by rfl) (pa_cons (pv 3) (pa_cons (pv 1) pa_nil))))))) (fun _ _ _ _ _ => (pv 2))))), ?_⟩
    have lP := Paired.len hP
    refine ⟨_, rfl, t, _, 1, .ref c, rfl, rfl, ht, rfl, c, us, rfl, hc, fun D hD => ?_⟩
    refine lc_enumT (K := K) (a := c) (xs := us) (fun i H => H D = some (.lst (iv ((List.range i).filter fun i => !keptB bs (cs.getD i [])))) ∧ Same G H) ⟨upd_same, same_new hD⟩ (fun i H h => sqT_same h.2 hc) ?_ ?_
    · rintro i x T H hi ⟨eD, s⟩ nT
      obtain ⟨ls, hl, hx⟩ := Paired.get hP hi
      obtain ⟨il, ie⟩ := List.getElem?_eq_some_iff.mp hl
      have sT := same_new (o := .tup [V.int ((i : Nat) : Int), x]) nT
      have eDT := sT _ _ eD
      have g1 : cs.getD i [] = ls := by
        rw [List.getD_eq_getElem?_getD, hl]
        rfl
      refine ⟨T, _, rfl, .inl (.inl upd_same), rfl, .int ((i : Nat) : Int), _, rfl, x, [], rfl, rfl, rfl, _, rfl, _, rfl, x, b, ls, bs, rfl, hx.same (s.trans sT), sqT_same (s.trans sT) hb, rc ls (List.mem_of_getElem? hl), fun H1 s1 => ⟨_, rfl, ?_⟩⟩
      have eD1 := s1 _ _ eDT
      have s11 := s.trans (sT.trans s1)
      have fl : (iv ((List.range i).filter fun i => !keptB bs (cs.getD i []))).length ≤ 1000 := by
        rw [iv_len]
        have := List.length_filter_le (fun i => !keptB bs (cs.getD i [])) (List.range i)
        rw [List.length_range] at this
        omega
      cases q : keptB bs ls with
      | true =>
        refine iteF ⟨?_, s11⟩
        rw [eD1, missI_snoc, g1, if_pos q, List.append_nil]
      | false =>
        refine iteT ⟨_, rfl, _, eD1, small1000 fl, ?_, same_mut s11 hD⟩
        rw [upd_same, missI_snoc, g1, if_neg (by rw [q]; exact Bool.false_ne_true)]
        simp [iv]
    · rintro H ⟨eD, s⟩
      rw [lP] at eD
      exact k H D s hD eD
end
end Es
set_option Elab.async false
set_option linter.all false
set_option maxRecDepth 100000
set_option maxHeartbeats 4000000
namespace Es
open PySem PySem.Spec PyProof.Rows L2
section
variable {P : Program} {w : World} {K : PySem.W.Frag} {mg : Str → Option Value} {base : Heap}
theorem ok_law_is_missed_right {f : Addr} {fd : FuncData} (F : Fun K "_law_is_missed_right" "_law_is_missed_right" s_law_is_missed_right f fd) (T : Txt mg) (c_law_take : CalleeOf P w K mg base 1 "_law_take" ["bag", "many"] (sp_law_take K)) (c_law_worth : CalleeOf P w K mg base 1 "_law_worth" ["row", "bits"] (sp_law_worthS K)) (c_law_alike : CalleeOf P w K mg base 1 "_law_alike" ["found", "due"] (sp_law_alike K)) (c_holds : CalleeOf P w K mg base 2 "holds" ["line", "bits"] (sp_holds K)) (c_keeps : CalleeOf P w K mg base 3 "keeps" ["clause", "bits"] (sp_keeps K)) (c_missed : CalleeOf P w K mg base 4 "missed" ["book", "bits"] (sp_missed K)) : FnG P w K mg base 5 f fd ["bag", "book"] (sp_law_is_missed_right K) := by
  refine okG F sc_law_is_missed_right (fun h => ?_) (fun cdv B out t0 G ys R E hr hg h => ?_)
  · obtain ⟨b, c, v, n, cs, rfl, _⟩ := h
    rfl
  · obtain ⟨b, c, v, n, cs, rfl, hB, ⟨t, cb, us, rfl, ht, hc, hP⟩, n62, ok, l900, kk⟩ := h
    refine ⟨_, (pss_cons
        (ps_set (i := 2) sc_law_is_missed_right.nd rfl (Or.inr rfl) (pe_callTy call_tuple_of (by rfl) T.z_tuple (by decide +kernel) (pa_cons (pe_lc (own := [("unknown", 3)]) rfl sc_law_is_missed_right.nd (pi_range1 (by rfl) T.z_range (pa_cons (pe_ix ix_tup (pv 1) pe_int (fun _ _ => rfl)) pa_nil)) (blkOk_by (own := [("unknown", 3)]) (N := ["bag", "book", "bits", "unknown", "due", "at", "clause", "worths", "row", "bit", "line", "again", "told"]) (sc := defScope s_law_is_missed_right) (by decide +kernel)) (fun _ _ _ _ _ => (pg_name (i := 3) sc_law_is_missed_right.nd rfl (.inl rfl))) (fun _ _ _ _ _ => pts_nil) (fun _ _ _ _ _ => (pe_callC c_law_take (hr.mono (by decide)) hg (by rfl) (pa_cons (pv 0) (pa_cons pe_int pa_nil))))) pa_nil)))
        (pss_cons
        (ps_set (i := 4) sc_law_is_missed_right.nd rfl (Or.inl rfl) (pe_lst pa_nil))
        (pss_cons
        (ps_for PassesOwn.never rfl (pi_enumT (by rfl) T.z_enumerate (pa_cons (pe_ix ix_tup (pv 1) pe_int (fun _ _ => rfl)) pa_nil)) (pg_tup (by rfl) (pgs_cons (pg_name (i := 5) sc_law_is_missed_right.nd rfl (.inl rfl)) (pgs_cons (pg_name (i := 6) sc_law_is_missed_right.nd rfl (.inl rfl)) pgs_nil)))
        (pss_cons
          (ps_setLc (i := 7) (own := [("row", 8), ("bit", 9)]) (g := (gTup K 2 (gCons (gName 8) (gCons (gName 9) gNil)))) rfl sc_law_is_missed_right.nd rfl rfl (sw_true rfl rfl rfl (by decide +kernel)) (pi_tup (pv 6)) (blkOk_by (own := [("row", 8), ("bit", 9)]) (N := ["bag", "book", "bits", "unknown", "due", "at", "clause", "worths", "row", "bit", "line", "again", "told"]) (sc := defScope s_law_is_missed_right) (by decide +kernel)) (fun _ _ _ _ _ => (pg_tup (by rfl) (pgs_cons (pg_name (i := 8) sc_law_is_missed_right.nd rfl (.inl rfl)) (pgs_cons (pg_name (i := 9) sc_law_is_missed_right.nd rfl (.inl rfl)) pgs_nil)))) (fun _ _ _ _ _ => pts_nil) (fun _ _ _ _ _ => (pe_cmpR op_eq (pe_callC c_law_worth (hr.mono (by decide)) hg (by rfl) (pa_cons (pv 8) (pa_cons (pv 2) pa_nil))) (pv 9) (nomark _))))
          (pss_cons
          (ps_if (pt_not (pt_val (pe_callC c_law_alike (hr.mono (by decide)) hg (by rfl) (pa_cons (pe_lc (own := [("line", 10)]) rfl sc_law_is_missed_right.nd (pi_tup (pv 6)) (blkOk_by (own := [("line", 10)]) (N := ["bag", "book", "bits", "unknown", "due", "at", "clause", "worths", "row", "bit", "line", "again", "told"]) (sc := defScope s_law_is_missed_right) (by decide +kernel)) (fun _ _ _ _ _ => (pg_name (i := 10) sc_law_is_missed_right.nd rfl (.inl rfl))) (fun _ _ _ _ _ => pts_nil) (fun _ _ _ _ _ => (pe_callC c_holds (hr.mono (by decide)) hg (by rfl) (pa_cons (pv 10) (pa_cons (pv 2) pa_nil))))) (pa_cons (pv 7) pa_nil)))))
          (pss_one
            (ps_ret pe_bl))
          pss_nil)
          (pss_cons
          (ps_if (pt_not (pt_val (pe_callC c_law_alike (hr.mono (by decide)) hg (by rfl) (pa_cons (pe_callC c_keeps (hr.mono (by decide)) hg (by rfl) (pa_cons (pv 6) (pa_cons (pv 2) pa_nil))) (pa_cons (pe_cmpR op_in_seq pe_bl (pv 7) (by rfl)) pa_nil)))))
          (pss_one
            (ps_ret pe_bl))
          pss_nil)
          (pss_one
          (ps_expr (pe_bm PySem.F.plainAttrs_list PySem.F.slot_list_extend PySem.F.type_list_extend mt_extend (pv 4) (pa_cons (pe_op op_rep (pe_lst (pa_cons (pv 5) pa_nil)) (pe_callTy call_int1 (by rfl) T.z_int (by decide +kernel) (pa_cons (pe_cmpR op_notIn_seq pe_bl (pv 7) (by rfl)) pa_nil))) pa_nil))))))))
        (pss_cons
        (ps_for PassesOwn.never rfl (pi_range1 (by rfl) T.z_range (pa_cons pe_int pa_nil)) (pg_name (i := 11) sc_law_is_missed_right.nd rfl (.inl rfl))
        (pss_cons
          (ps_set (i := 12) sc_law_is_missed_right.nd rfl (Or.inl rfl) (pe_callC c_missed (hr.mono (by decide)) hg (by rfl) (pa_cons (pv 1) (pa_cons (pv 2) pa_nil))))
          (pss_cons
          (ps_if (pt_not (pt_val (pe_callC c_law_alike (hr.mono (by decide)) hg (by rfl) (pa_cons (pv 12) (pa_cons (pv 4) pa_nil)))))
          (pss_one
            (ps_ret pe_bl))
          pss_nil)
          (pss_one
          (ps_expr (pe_bm PySem.F.plainAttrs_list PySem.F.slot_list_append PySem.F.type_list_append mt_append (pv 12) (pa_cons pe_non pa_nil)))))))
        (pss_one
        (ps_ret pe_bl)))))), ?_⟩
    obtain ⟨yg, eg⟩ := hB.lst
    have lP := Paired.len hP
    refine ⟨_, rfl, t, _, 0, .int (n : Int), rfl, rfl, ht, rfl, (n : Int), rfl, by omega, by omega, fun D hD => ?_⟩
    have nDb := ne_bagK hB hD
    refine lc_range (lo := 0) (n := n) (fun i H => ∃ acc : List Nat, H D = some (.lst (iv acc)) ∧ But b G H ∧ BagAt K H b c ∧ acc.length = i ∧ ∀ x ∈ acc, x < 2)
      ⟨[], upd_same, But.new hD, hB.same (same_new hD), rfl, (fun x hx => by cases hx)⟩ ?_ ?_
    · rintro i H hi ⟨acc, eD, s1, B2, la, a2⟩
      refine ⟨rfl, _, rfl, b, c, 2, rfl, B2, by decide, by decide, fun H2 r s2 B3 hr2 => ?_⟩
      refine ⟨iv acc, s2 D _ nDb eD, ?_, acc ++ [r], ?_, but_mut (s1.trans s2) hD, BagAt.mut hB hD B3, by simp [la], ?_⟩
      · rw [iv_len, la]
        exact small1000 (by omega)
      · rw [upd_same]
        simp [iv]
      · intro x hx
        rcases List.mem_append.mp hx with hx | hx
        · exact a2 x hx
        · have hx : x = r := by simpa using hx
          rw [hx]; exact hr2
    rintro H1 ⟨bs, eD, s1, B1, lbs, bs2⟩
    refine ⟨D, iv bs, rfl, .inl ⟨.inl (.inl eD), fun pb npb => ?_⟩⟩
    have r1 := same_new (o := .tup (iv bs)) npb
    have hpb : SqT K (upd H1 pb (.tup (iv bs))) pb (iv bs) := .inl (.inl upd_same)
    have B2 := B1.same r1
    have s2 := s1.trans (But.same (b := b) r1)
    generalize upd H1 pb (.tup (iv bs)) = H2 at hpb B2 s2 ⊢
    refine ⟨Nat.zero_le _, fun l nl => ?_⟩
    have r2 := same_new (o := .lst []) nl
    have el := upd_same (H := H2) (a := l) (o := .lst [])
    have gl := s2.free (ne_bagK B2 nl) nl
    have B3 := B2.same r2
    have s3 := s2.trans (But.same (b := b) r2)
    have hpb := sqT_same r2 hpb
    generalize upd H2 l (.lst []) = H3 at hpb el B3 s3 ⊢
    have ht := sqT_but eg s3 ht
    have hc := sqT_but eg s3 hc
    have hP := Paired.mono2 (fun _ _ h => LinesV.but eg s3 h) hP
    have rc : ∀ ls ∈ cs, Reach bs ls := fun ls hls l hl u hu => by
      rw [lbs]
      exact bits_below ((ok ls hls).1 l hl).1 hu
    refine ⟨_, rfl, t, _, 1, .ref cb, rfl, rfl, ht, rfl, cb, us, rfl, hc, for_enumT (K := K) (a := cb) (xs := us)
      (fun i σ H => ∃ y5 y6 y7, σ = [some (.ref b), some (.ref t), some (.ref pb), none, some (.ref l), y5, y6, y7, none, none, none, none, none] ∧ But l H3 H ∧ BagAt K H b c ∧ H l = some (.lst (iv ((List.range i).filter fun i => !keptB bs (cs.getD i [])))))
      ⟨_, _, _, rfl, But.refl _ _, B3, el⟩ (fun i σ H ⟨_, _, _, _, s, _⟩ => sqT_but el s hc) ?_ ?_⟩
    · rintro i x T σ H hi ⟨y5, y6, y7, rfl, s, B, eL⟩ nT
      obtain ⟨ls, hl, hx⟩ := Paired.get hP hi
      obtain ⟨il, ie⟩ := List.getElem?_eq_some_iff.mp hl
      have lm := List.mem_of_getElem? hl
      have g1 : cs.getD i [] = ls := by
        rw [List.getD_eq_getElem?_getD, hl]
        rfl
      have hx := LinesV.but el s hx
      have hpb4 := sqT_but el s hpb
      obtain ⟨okl, l60⟩ := ok ls lm
      have sT := same_new (o := .tup [V.int ((i : Nat) : Int), x]) nT
      refine ⟨T, _, rfl, .inl (.inl upd_same), rfl, .int ((i : Nat) : Int), _, rfl, x, [], rfl, rfl, ?_⟩
      generalize upd H T (.tup [V.int ((i : Nat) : Int), x]) = HT at sT ⊢
      have hxT := hx.same sT
      have hpbT := sqT_same sT hpb4
      have eLT := sT _ _ eL
      obtain ⟨tx, ux, rfl, htx, hPx⟩ := hxT
      have lux := Paired.len hPx
      refine ⟨_, rfl, tx, rfl, ⟨_, htx⟩, fun D hD => ?_⟩
      refine lc_tup (K := K) (a := tx) (xs := ux) (fun j H' => H' D = some (.lst (((ls.take j).map fun l => decide (wsum l.1 bs % 2 = l.2)).map V.bl)) ∧ Same HT H') ⟨upd_same, same_new hD⟩ (fun j H' _ h => sqT_same h.2 htx) ?_ ?_
      · rintro j y H' hj ⟨eD, s4⟩
        obtain ⟨l0, hl0, hy⟩ := Paired.get hPx hj
        obtain ⟨jl, je⟩ := List.getElem?_eq_some_iff.mp hl0
        obtain ⟨ty, ry, rfl, hty, hry⟩ := hy
        refine ⟨ty, _, rfl, sqT_same s4 hty, rfl, ry, _, rfl, _, [], rfl, rfl, rfl, _, rfl, _, rfl, ry, pb, l0.1, bs, rfl, hry.same s4, .inr (sqT_same s4 hpbT), rc ls lm l0 (List.mem_of_getElem? hl0), fun H5 s5 => ⟨_, rfl, rfl, ?_⟩⟩
        have s45 := s4.trans s5
        refine ⟨_, s5 _ _ eD, small1000 (by rw [List.length_map, List.length_map, List.length_take]; omega), ?_, same_mut s45 hD⟩
        rw [upd_same, List.take_succ_eq_append_getElem jl, je, List.map_append, List.map_append]
        have e : decide (V.int ((wsum l0.1 bs % 2 : Nat) : Int) = V.int (l0.2 : Int)) = decide (wsum l0.1 bs % 2 = l0.2) := decide_eq_decide.mpr ⟨fun z => by
          injection z with z
          omega, fun z => by rw [z]⟩
        rw [e]
        rfl
      rintro H4 ⟨eD, s4⟩
      rw [lux, List.take_length] at eD
      have WS : ∀ {H : Hp} {l : Addr}, H l = some (.lst ((ls.map fun l => decide (wsum l.1 bs % 2 = l.2)).map V.bl)) → Dp K H (.ref l) (.list ((ls.map fun l => decide (wsum l.1 bs % 2 = l.2)).map .bool)) := fun e => .lst (.inl (.inl e)) (bools_dpK _)
      obtain ⟨n1, n2, n3⟩ := bools_nice (ls.map fun l => decide (wsum l.1 bs % 2 = l.2))
      rw [List.length_map] at n3
      refine ⟨_, rfl, tx, rfl, ⟨_, sqT_same s4 htx⟩, fun D2 hD2 => ?_⟩
      refine lc_tup (K := K) (a := tx) (xs := ux) (fun j H' => H' D2 = some (.lst (((ls.take j).map fun l => decide (wsum l.1 bs % 2 = l.2)).map V.bl)) ∧ Same H4 H') ⟨upd_same, same_new hD2⟩ (fun j H' _ h => sqT_same (s4.trans h.2) htx) ?_ ?_
      · rintro j y H' hj ⟨eD2, s5⟩
        obtain ⟨l0, hl0, hy⟩ := Paired.get hPx hj
        obtain ⟨jl, je⟩ := List.getElem?_eq_some_iff.mp hl0
        refine ⟨rfl, _, rfl, _, rfl, y, pb, l0, bs, rfl, hy.same (s4.trans s5), sqT_same (s4.trans s5) hpbT, rc ls lm l0 (List.mem_of_getElem? hl0), fun H6 s6 => ?_⟩
        refine ⟨_, s6 _ _ eD2, small1000 (by rw [List.length_map, List.length_map, List.length_take]; omega), ?_, same_mut (s5.trans s6) hD2⟩
        rw [upd_same, List.take_succ_eq_append_getElem jl, je, List.map_append, List.map_append]
        rfl
      rintro H5 ⟨eD2, s5⟩
      rw [lux, List.take_length] at eD2
      have eD5 := s5 _ _ eD
      refine ⟨_, rfl, .ref D2, .ref D, _, rfl, WS eD2, WS eD5, n1, (by show PyData.depthAll _ + 1 ≤ 40; rw [n2]; decide), (by show PyData.weightAll _ ≤ 2 ^ 20; rw [n3]; exact Nat.le_trans l60 (by decide)), _, rfl, iteF ?_⟩
      have s45 := s4.trans s5
      have kb : keptB bs ls = (ls.map fun l => decide (wsum l.1 bs % 2 = l.2)).any id := by
        unfold keptB
        rw [List.any_map]
        rfl
      refine ⟨_, rfl, _, rfl, .ref tx, pb, ls, bs, rfl, ⟨tx, ux, rfl, sqT_same s45 htx, lines_same s45 hPx⟩, sqT_same s45 hpbT, rc ls lm, fun H6 s6 => ?_⟩
      have eD6 := s6 _ _ eD5
      refine ⟨_, rfl, D, _, rfl, .inl (.inl (.inl eD6)), rfl, ?_, .bl (keptB bs ls), _, .bool (keptB bs ls), rfl, .bl _, ?_, rfl, (by show 0 ≤ 40; decide), (by show 0 ≤ 2 ^ 20; decide), _, rfl, iteF ?_⟩
      · exact List.all_eq_true.mpr fun z hz => by
          obtain ⟨w, _, rfl⟩ := List.mem_map.mp hz
          rfl
      · show Dp K H6 (.bl (inV (.bl true) ((ls.map fun l => decide (wsum l.1 bs % 2 = l.2)).map V.bl))) _
        rw [inV_true, ← kb]
        exact .bl _
      have ev : inV (.bl true) ((ls.map fun l => decide (wsum l.1 bs % 2 = l.2)).map V.bl) = keptB bs ls := by rw [inV_true, ← kb]
      have sT6 := sT.trans (s45.trans s6)
      have eL6 := (s45.trans s6) _ _ eLT
      refine ⟨_, rfl, .inl ⟨rfl, _, .inl (.inl eL6)⟩, _, rfl, (by show 1 ≤ sizeLine; decide), fun l7 n7 => ?_⟩
      have r7 := same_new (o := .lst [V.int ((i : Nat) : Int)]) n7
      have e7 := upd_same (H := H6) (a := l7) (o := .lst [V.int ((i : Nat) : Int)])
      have eL7 := r7 _ _ eL6
      have eD7 := r7 _ _ eD6
      generalize upd H6 l7 (.lst [V.int ((i : Nat) : Int)]) = H7 at r7 e7 eL7 eD7 ⊢
      refine ⟨_, rfl, D, _, rfl, .inl (.inl (.inl eD7)), rfl, ?_, .inr ⟨_, rfl, l7, _, _, rfl, rfl, e7, ?_, ?_, ?_, fun p np => ?_⟩⟩
      · exact List.all_eq_true.mpr fun z hz => by
          obtain ⟨w, _, rfl⟩ := List.mem_map.mp hz
          rfl
      · show -(2 ^ 63) ≤ (if (!inV (.bl true) ((ls.map fun l => decide (wsum l.1 bs % 2 = l.2)).map V.bl)) = true then (1 : Int) else 0)
        rw [ev]
        cases keptB bs ls <;> decide
      · show (if (!inV (.bl true) ((ls.map fun l => decide (wsum l.1 bs % 2 = l.2)).map V.bl)) = true then (1 : Int) else 0) < 2 ^ 63
        rw [ev]
        cases keptB bs ls <;> decide
      · show 1 * (if (!inV (.bl true) ((ls.map fun l => decide (wsum l.1 bs % 2 = l.2)).map V.bl)) = true then (1 : Int) else 0).toNat ≤ sizeLine
        rw [ev]
        cases keptB bs ls <;> decide
      have ek : (List.replicate (if (!inV (.bl true) ((ls.map fun l => decide (wsum l.1 bs % 2 = l.2)).map V.bl)) = true then (1 : Int) else 0).toNat [V.int ((i : Nat) : Int)]).flatten = iv (if keptB bs ls = true then [] else [i]) := by
        rw [ev]
        cases keptB bs ls <;> rfl
      have r8 := same_new (o := .lst (List.replicate (if (!inV (.bl true) ((ls.map fun l => decide (wsum l.1 bs % 2 = l.2)).map V.bl)) = true then (1 : Int) else 0).toNat [V.int ((i : Nat) : Int)]).flatten) np
      have e8 : upd H7 p (.lst (List.replicate (if (!inV (.bl true) ((ls.map fun l => decide (wsum l.1 bs % 2 = l.2)).map V.bl)) = true then (1 : Int) else 0).toNat [V.int ((i : Nat) : Int)]).flatten) p = some (.lst (iv (if keptB bs ls = true then [] else [i]))) := by rw [upd_same, ek]
      have eL8 := r8 _ _ eL7
      have sAll := sT6.trans (r7.trans r8)
      have lf : ((List.range i).filter fun i => !keptB bs (cs.getD i [])).length ≤ 240 := by
        have := List.length_filter_le (fun i => !keptB bs (cs.getD i [])) (List.range i)
        rw [List.length_range] at this
        omega
      refine ⟨l, p, _, _, rfl, rfl, eL8, e8, Nat.le_of_lt (small1000 (by
        rw [iv_len, iv_len]
        have : (if keptB bs ls = true then [] else [i]).length ≤ 1 := by split <;> simp
        omega)), _, _, _, rfl, (s.trans (But.same sAll)).trans But.at_, BagAt.mut hB gl (B.same sAll), ?_⟩
      rw [upd_same, missI_snoc, g1]
      simp [iv]
    · rintro σ H ⟨y5, y6, y7, rfl, s, B, eL⟩
      rw [lP] at eL
      have hbk : BookV K H (.ref t) n cs := ⟨t, cb, us, rfl, sqT_but el s ht, sqT_but el s hc, Paired.mono2 (fun _ _ h => LinesV.but el s h) hP⟩
      have hpbH := sqT_but el s hpb
      have lb : l ≠ b := ne_bagK hB gl
      have mi : ∀ x ∈ missI cs bs, x < 10 ^ 12 := fun x hx => by
        have := List.mem_range.mp (List.mem_filter.mp hx).1
        omega
      have lm : (missI cs bs).length ≤ 240 := by
        have := List.length_filter_le (fun i => !keptB bs (cs.getD i [])) (List.range cs.length)
        rw [List.length_range] at this
        unfold missI
        omega
      refine ⟨2, rfl, by decide, by decide, for_range (lo := 0) (n := 2) (fun i σ H' => ∃ y11 y12, σ = [some (.ref b), some (.ref t), some (.ref pb), none, some (.ref l), y5, y6, y7, none, none, none, y11, y12] ∧ Same H H')
        ⟨_, _, rfl, Same.refl _⟩ ?_ ?_⟩
      · rintro i σ H' hi ⟨y11, y12, rfl, s5⟩
        refine ⟨_, rfl, _, rfl, .ref t, pb, n, cs, bs, rfl, hbk.same s5, sqT_same s5 hpbH, rc, by omega, fun H6 p s6 np ep => ?_⟩
        have eL6 := (s5.trans s6) _ _ eL
        refine ⟨_, rfl, _, rfl, .ref p, .ref l, _, rfl, dp_iv (.inl (.inl ep)), dp_iv (.inl (.inl eL6)), nice_iv mi, (by show PyData.depthAll _ + 1 ≤ 40; rw [depth_ints]; decide), weight_ivK lm mi, _, rfl, iteF ?_⟩
        have nHp : H p = none := by
          cases q : H p with
          | none => rfl
          | some o =>
            rw [s5 _ _ q] at np
            cases np
        exact ⟨_, rfl, .inl ⟨rfl, _, .inl (.inl ep)⟩, p, _, .non, rfl, rfl, ep, small1000 (by rw [iv_len]; omega), _, _, rfl, same_mut (s5.trans s6) nHp⟩
      · rintro σ H' ⟨y11, y12, rfl, s5⟩
        refine kk H' (fun a o n e => s5 _ _ (s a o (fun z => by
          rw [z, gl] at e
          cases e) (s3 a o n e))) (B.same s5)
end
end Es
set_option Elab.async false
set_option linter.all false
set_option maxRecDepth 100000
set_option maxHeartbeats 4000000
namespace Es
open PySem PySem.Spec PyProof.Rows L2
section
variable {P : Program} {w : World} {K : PySem.W.Frag} {mg : Str → Option Value} {base : Heap}
theorem ok_with_clause {f : Addr} {fd : FuncData} (F : Fun K "with_clause" "with_clause" s_with_clause f fd) (T : Txt mg)  : FnG P w K mg base 1 f fd ["book", "clause"] (sp_with_clause K) := by
  refine okG F sc_with_clause (fun h => ?_) (fun cdv B out t0 G ys R E hr hg h => ?_)
  · obtain ⟨v, u, n, cs, ls, rfl, _⟩ := h
    rfl
  · obtain ⟨v, u, n, cs, ls, rfl, ⟨t, c, us, rfl, ht, hc, hP⟩, hu, l900, k⟩ := h
    refine ⟨_, (pss_one
        (ps_ret (pe_tup (pa_cons (pe_ix ix_tup (pv 0) pe_int (fun _ _ => rfl)) (pa_cons (pe_op op_catA (pe_ix ix_tup (pv 0) pe_int (fun _ _ => rfl)) (pe_tup (pa_cons (pv 1) pa_nil))) pa_nil))))), ?_⟩
    have lP := Paired.len hP
    refine ⟨_, rfl, t, _, 0, .int (n : Int), rfl, rfl, ht, rfl, _, rfl, t, _, 1, .ref c, rfl, rfl, ht, rfl, _, rfl, (by show 1 ≤ sizeLine; decide), fun p1 n1 => ?_⟩
    have r1 := same_new (o := .tup [u]) n1
    refine cat_seq (sqT_same r1 hc) (.inl (.inl upd_same)) (Nat.le_of_lt (small1000 (by rw [List.length_singleton]; omega))) fun H2 p2 r2 h2 => ⟨(by show 2 ≤ sizeLine; decide), fun p3 n3 => ?_⟩
    have r3 := same_new (o := .tup [V.int (n : Int), V.ref p2]) n3
    have s := r1.trans (r2.trans r3)
    exact k _ _ s ⟨p3, p2, _, rfl, .inl (.inl upd_same), sqT_same r3 h2, PySem.Paired.snoc (Paired.mono2 (fun _ _ h => LinesV.same s h) hP) (hu.same s)⟩
end
end Es
set_option Elab.async false
set_option linter.all false
set_option maxRecDepth 100000
set_option maxHeartbeats 4000000
namespace Es
open PySem PySem.Spec PyProof.Rows L2
section
variable {P : Program} {w : World} {K : PySem.W.Frag} {mg : Str → Option Value} {base : Heap}
theorem ok_clauses_of {f : Addr} {fd : FuncData} (F : Fun K "clauses_of" "clauses_of" s_clauses_of f fd) (T : Txt mg)  : FnG P w K mg base 1 f fd ["book", "lot"] (sp_clauses_of K) := by
  refine okG F sc_clauses_of (fun h => ?_) (fun cdv B out t0 G ys R E hr hg h => ?_)
  · obtain ⟨v, q, n, cs, js, rfl, _⟩ := h
    rfl
  · obtain ⟨v, q, n, cs, js, rfl, ⟨t, c, us, rfl, ht, hc, hP⟩, hq, hj, l900, k⟩ := h
    refine ⟨_, (pss_one
        (ps_ret (pe_tup (pa_cons (pe_ix ix_tup (pv 0) pe_int (fun _ _ => rfl)) (pa_cons (pe_callTy call_tuple_of (by rfl) T.z_tuple (by decide +kernel) (pa_cons (pe_lc (own := [("index", 2)]) rfl sc_clauses_of.nd (pi_tup (pv 1)) (blkOk_by (own := [("index", 2)]) (N := ["book", "lot", "index"]) (sc := defScope s_clauses_of) (by decide +kernel)) (fun _ _ _ _ _ => (pg_name (i := 2) sc_clauses_of.nd rfl (.inl rfl))) (fun _ _ _ _ _ => pts_nil) (fun _ _ _ _ _ => (pe_ix (r := rIxT K) ix_tup (pe_ix (r := rIxT K) ix_tup (pv 0) pe_int (fun _ _ => rfl)) (pv 2) (fun _ _ => rfl)))) pa_nil)) pa_nil))))), ?_⟩
    have lP := Paired.len hP
    refine ⟨_, rfl, t, _, 0, .int (n : Int), rfl, rfl, ht, rfl, _, rfl, q, rfl, ⟨_, hq⟩, fun D hD => ?_⟩
    refine lc_tup (K := K) (a := q) (xs := iv js) (fun i H => ∃ zs, H D = some (.lst zs) ∧ Same G H ∧ Paired (LinesV K H) zs ((js.take i).map fun j => cs.getD j [])) ⟨[], upd_same, same_new hD, .nil⟩ (fun i H _ ⟨_, _, s, _⟩ => sqT_same s hq) ?_ ?_
    · rintro i x H hi ⟨zs, eD, s, hz⟩
      obtain ⟨j, hj1, rfl⟩ := iv_get hi
      obtain ⟨il, ie⟩ := List.getElem?_eq_some_iff.mp hj1
      have jl := hj j (List.mem_of_getElem? hj1)
      have ju : j < us.length := by omega
      obtain ⟨ls, hls, hx⟩ := Paired.get hP (List.getElem?_eq_getElem ju)
      have lz := Paired.len hz
      rw [List.length_map, List.length_take] at lz
      refine ⟨rfl, _, rfl, t, _, 1, .ref c, rfl, rfl, sqT_same s ht, rfl, _, rfl, c, us, (j : Int), us[j], rfl, rfl, sqT_same s hc, atI_nat (List.getElem?_eq_getElem ju), zs, eD, small1000 (by omega), zs ++ [us[j]], upd_same, same_mut s hD, ?_⟩
      have e : cs.getD j [] = ls := by
        rw [List.getD_eq_getElem?_getD, hls]
        rfl
      rw [List.take_succ_eq_append_getElem il, ie, List.map_append]
      refine PySem.Paired.snoc (Paired.mono2 (fun _ _ h => LinesV.but eD But.at_ h) hz) ?_
      show LinesV K _ us[j] (cs.getD j [])
      rw [e]
      exact LinesV.but eD But.at_ (hx.same s)
    rintro H ⟨zs, eD, s, hz⟩
    rw [iv_len, List.take_length] at hz
    refine ⟨D, zs, rfl, .inl ⟨.inl (.inl eD), fun p np => ⟨(by show 2 ≤ sizeLine; decide), fun p2 n2 => ?_⟩⟩⟩
    have r1 := same_new (o := .tup zs) np
    have r2 := same_new (o := .tup [V.int (n : Int), V.ref p]) n2
    exact k _ _ (s.trans (r1.trans r2)) ⟨p2, p, zs, rfl, .inl (.inl upd_same), .inl (.inl (r2 _ _ upd_same)), Paired.mono2 (fun _ _ h => LinesV.same (r1.trans r2) h) hz⟩
end
end Es
set_option Elab.async false
set_option linter.all false
set_option maxRecDepth 100000
set_option maxHeartbeats 4000000
namespace Es
open PySem PySem.Spec PyProof.Rows L2
section
variable {P : Program} {w : World} {K : PySem.W.Frag} {mg : Str → Option Value} {base : Heap}
theorem ok_without_clause {f : Addr} {fd : FuncData} (F : Fun K "without_clause" "without_clause" s_without_clause f fd) (T : Txt mg)  : FnG P w K mg base 1 f fd ["book", "index"] (sp_without_clause K) := by
  refine okG F sc_without_clause (fun h => ?_) (fun cdv B out t0 G ys R E hr hg h => ?_)
  · obtain ⟨v, i, n, cs, rfl, _⟩ := h
    rfl
  · obtain ⟨v, i, n, cs, rfl, ⟨t, c, us, rfl, ht, hc, hP⟩, il, l900, k⟩ := h
    refine ⟨_, (pss_one
        (ps_ret (pe_tup (pa_cons (pe_ix ix_tup (pv 0) pe_int (fun _ _ => rfl)) (pa_cons (pe_op op_catA (pe_slice sl_tupA (pe_ix ix_tup (pv 0) pe_int (fun _ _ => rfl)) po_none (po_some (pv 1))) (pe_slice sl_tupA (pe_ix ix_tup (pv 0) pe_int (fun _ _ => rfl)) (po_some (pe_op op_add (pv 1) pe_int)) po_none)) pa_nil))))), ?_⟩
    have lP := Paired.len hP
    have ej : cutV us (some ((i + 1 : Nat) : Int)) none = us.drop (i + 1) := (cut_from (by omega)).1
    refine ⟨_, rfl, t, _, 0, .int (n : Int), rfl, rfl, ht, rfl, _, rfl, t, _, 1, .ref c, rfl, rfl, ht, rfl, _, rfl, (i : Int), rfl, cut_use hc fun H1 p1 r1 h1 => ?_⟩
    rw [cut_take] at h1
    refine ⟨_, rfl, t, _, 1, .ref c, rfl, rfl, sqT_same r1 ht, rfl, _, rfl, _, _, rfl, rfl, ((i + 1 : Nat) : Int), rfl, cut_fromU (sqT_same r1 hc) fun H2 p2 r2 h2 => ?_⟩
    rw [ej] at h2
    refine cat_seq (sqT_same r2 h1) h2 (Nat.le_of_lt (small1000 (by rw [List.length_take, List.length_drop]; omega))) fun H3 p3 r3 h3 => ⟨(by show 2 ≤ sizeLine; decide), fun p4 n4 => ?_⟩
    have r4 := same_new (o := .tup [V.int (n : Int), V.ref p3]) n4
    have s := r1.trans (r2.trans (r3.trans r4))
    exact k _ _ s ⟨p4, p3, _, rfl, .inl (.inl upd_same), sqT_same r4 h3, paired_append (paired_take i (Paired.mono2 (fun _ _ h => LinesV.same s h) hP)) (paired_drop2 (i + 1) (Paired.mono2 (fun _ _ h => LinesV.same s h) hP))⟩
end
end Es
set_option Elab.async false
set_option linter.all false
set_option maxRecDepth 100000
set_option maxHeartbeats 4000000
namespace Es
open PySem PySem.Spec PyProof.Rows L2
section
variable {P : Program} {w : World} {K : PySem.W.Frag} {mg : Str → Option Value} {base : Heap}
theorem ok_law_are_parts_right {f : Addr} {fd : FuncData} (F : Fun K "_law_are_parts_right" "_law_are_parts_right" s_law_are_parts_right f fd) (T : Txt mg) (c_law_take : CalleeOf P w K mg base 1 "_law_take" ["bag", "many"] (sp_law_take K)) (c_law_any_clause : CalleeOf P w K mg base 4 "_law_any_clause" ["bag", "many", "most"] (sp_law_any_clause K)) (c_with_clause : CalleeOf P w K mg base 1 "with_clause" ["book", "clause"] (sp_with_clause K)) (c_clauses_of : CalleeOf P w K mg base 1 "clauses_of" ["book", "lot"] (sp_clauses_of K)) (c_without_clause : CalleeOf P w K mg base 1 "without_clause" ["book", "index"] (sp_without_clause K)) (c_law_alike : CalleeOf P w K mg base 1 "_law_alike" ["found", "due"] (sp_law_alike K)) : FnG P w K mg base 5 f fd ["bag", "book"] (sp_law_are_parts_right K) := by
  refine okG F sc_law_are_parts_right (fun h => ?_) (fun cdv B out t0 G ys R E hr hg h => ?_)
  · obtain ⟨b, c, v, n, cs, rfl, _⟩ := h
    rfl
  · obtain ⟨b, c, v, n, cs, rfl, hB, hBK, n12, ok, l25, kk⟩ := h
    refine ⟨_, (pss_cons
        (ps_asg (pv 1) (pg_tup (by rfl) (pgs_cons (pg_name (i := 2) sc_law_are_parts_right.nd rfl (.inl rfl)) (pgs_cons (pg_name (i := 3) sc_law_are_parts_right.nd rfl (.inr rfl)) pgs_nil))))
        (pss_cons
        (ps_set (i := 4) sc_law_are_parts_right.nd rfl (Or.inl rfl) (pe_callTy call_tuple_of (by rfl) T.z_tuple (by decide +kernel) (pa_cons (pe_lc (own := [("k", 5)]) rfl sc_law_are_parts_right.nd (pi_range1 (by rfl) T.z_range (pa_cons (pe_callB call_len_seq (by rfl) T.z_len (by decide +kernel) (pa_cons (pv 3) pa_nil)) pa_nil)) (blkOk_by (own := [("k", 5)]) (N := ["bag", "book", "many", "clauses", "lot", "k", "clause", "told", "due"]) (sc := defScope s_law_are_parts_right) (by decide +kernel)) (fun _ _ _ _ _ => (pg_name (i := 5) sc_law_are_parts_right.nd rfl (.inl rfl))) (fun _ _ _ _ _ => (pts_one (pt_cmpR op_eq (pe_callC c_law_take (hr.mono (by decide)) hg (by rfl) (pa_cons (pv 0) (pa_cons pe_int pa_nil))) pe_int (nomark _)))) (fun _ _ _ _ _ => (pv 5))) pa_nil)))
        (pss_cons
        (ps_set (i := 6) sc_law_are_parts_right.nd rfl (Or.inl rfl) (pe_via (pe_ifExp (pt_cmpR op_gt (pv 2) pe_int (nomark _)) (pe_callC c_law_any_clause (hr.mono (by decide)) hg (by rfl) (pa_cons (pv 0) (pa_cons (pv 2) (pa_cons pe_int pa_nil)))) (pe_tup pa_nil))))
        (pss_cons
        (ps_set (i := 7) sc_law_are_parts_right.nd rfl (Or.inl rfl) (pe_lst (pa_cons (pe_callC c_clauses_of (hr.mono (by decide)) hg (by rfl) (pa_cons (pv 1) (pa_cons (pv 4) pa_nil))) (pa_cons (pe_callC c_with_clause (hr.mono (by decide)) hg (by rfl) (pa_cons (pv 1) (pa_cons (pv 6) pa_nil))) pa_nil))))
        (pss_cons
        (ps_set (i := 8) sc_law_are_parts_right.nd rfl (Or.inl rfl) (pe_lst (pa_cons (pe_tup (pa_cons (pv 2) (pa_cons (pe_callTy call_tuple_of (by rfl) T.z_tuple (by decide +kernel) (pa_cons (pe_lc (own := [("k", 5)]) rfl sc_law_are_parts_right.nd (pi_tup (pv 4)) (blkOk_by (own := [("k", 5)]) (N := ["bag", "book", "many", "clauses", "lot", "k", "clause", "told", "due"]) (sc := defScope s_law_are_parts_right) (by decide +kernel)) (fun _ _ _ _ _ => (pg_name (i := 5) sc_law_are_parts_right.nd rfl (.inl rfl))) (fun _ _ _ _ _ => pts_nil) (fun _ _ _ _ _ => (pe_ix (r := rIxT K) ix_tup (pv 3) (pv 5) (fun _ _ => rfl)))) pa_nil)) pa_nil))) (pa_cons (pe_tup (pa_cons (pv 2) (pa_cons (pe_op op_catA (pv 3) (pe_tup (pa_cons (pv 6) pa_nil))) pa_nil))) pa_nil))))
        (pss_cons
        (ps_for PassesOwn.never rfl (pi_range1 (by rfl) T.z_range (pa_cons (pe_callB call_len_seq (by rfl) T.z_len (by decide +kernel) (pa_cons (pv 3) pa_nil)) pa_nil)) (pg_name (i := 5) sc_law_are_parts_right.nd rfl (.inl rfl))
        (pss_cons
          (ps_expr (pe_bm PySem.F.plainAttrs_list PySem.F.slot_list_append PySem.F.type_list_append mt_append (pv 7) (pa_cons (pe_callC c_without_clause (hr.mono (by decide)) hg (by rfl) (pa_cons (pv 1) (pa_cons (pv 5) pa_nil))) pa_nil)))
          (pss_one
          (ps_expr (pe_bm PySem.F.plainAttrs_list PySem.F.slot_list_append PySem.F.type_list_append mt_append (pv 8) (pa_cons (pe_tup (pa_cons (pv 2) (pa_cons (pe_op op_catA (pe_slice sl_tupA (pv 3) po_none (po_some (pv 5))) (pe_slice sl_tupA (pv 3) (po_some (pe_op op_add (pv 5) pe_int)) po_none)) pa_nil))) pa_nil))))))
        (pss_one
        (ps_ret (pe_callC c_law_alike (hr.mono (by decide)) hg (by rfl) (pa_cons (pv 7) (pa_cons (pv 8) pa_nil))))))))))), ?_⟩
    have hBK0 := hBK
    obtain ⟨t, cb, us, rfl, ht, hc, hP⟩ := hBK
    have lP := Paired.len hP
    obtain ⟨yg, eg⟩ := hB.lst
    refine ⟨_, rfl, t, _, rfl, ht, rfl, .int (n : Int), _, rfl, .ref cb, [], rfl, rfl, ?_⟩
    refine ⟨_, rfl, cb, us, rfl, .inr hc, (us.length : Int), rfl, by omega, by omega, fun D hD => ?_⟩
    have nDb : D ≠ b := ne_bagK hB hD
    refine lc_range (lo := 0) (n := us.length) (fun i H => ∃ js : List Nat, H D = some (.lst (iv js)) ∧ But b G H ∧ BagAt K H b c ∧ (∀ j ∈ js, j < i) ∧ js.length ≤ i)
      ⟨[], upd_same, But.new hD, hB.same (same_new hD), (fun j h => by cases h), Nat.le_refl _⟩ ?_ ?_
    · rintro i H hi ⟨js, eD, s1, B1, hj, lj⟩
      refine ⟨rfl, _, rfl, b, c, 2, rfl, B1, by decide, by decide, fun H2 r s2 B2 hr => ⟨rfl, _, rfl, ite2 (fun _ => ?_) (fun _ => ?_)⟩⟩
      · have e2 := s2 _ _ nDb eD
        refine ⟨_, rfl, iv js, e2, small1000 (by rw [iv_len]; omega), js ++ [i], ?_, but_mut (s1.trans s2) hD, BagAt.mut hB hD B2, fun j h => ?_, by rw [List.length_append, List.length_singleton]; omega⟩
        · rw [upd_same]
          simp [iv]
        · rcases List.mem_append.mp h with h | h
          · exact Nat.lt_succ_of_lt (hj j h)
          · rw [List.mem_singleton.mp h]
            exact Nat.lt_succ_self i
      · exact ⟨js, s2 _ _ nDb eD, s1.trans s2, B2, fun j h => Nat.lt_succ_of_lt (hj j h), Nat.le_succ_of_le lj⟩
    rintro H1 ⟨js, eD, s1, B1, hj, lj⟩
    refine ⟨D, iv js, rfl, .inl ⟨.inl (.inl eD), fun q nq => ?_⟩⟩
    have r1 := same_new (o := .tup (iv js)) nq
    have hq : SqT K (upd H1 q (.tup (iv js))) q (iv js) := .inl (.inl upd_same)
    have B2 := B1.same r1
    have s2 := s1.trans (But.same (b := b) r1)
    generalize upd H1 q (.tup (iv js)) = H2 at hq B2 s2 ⊢
    refine ⟨fun v H => ∃ kl, LinesV K H v kl ∧ ClOkZ n kl ∧ But b H2 H ∧ BagAt K H b c, ?_, ?_⟩
    · refine ⟨_, rfl, _, _, rfl, rfl, _, rfl, ite2 (fun hc0 => ?_) (fun _ => ?_)⟩
      · have n0 : 0 < n := by
          have := of_decide_eq_true hc0
          omega
        exact ⟨_, rfl, _, rfl, b, c, n, 4, rfl, B2, n0, by omega, by decide, fun H3 v ls s3 B3 hv hl ll => ⟨ls, hv, ⟨hl, by omega⟩, s3, B3⟩⟩
      · refine ⟨Nat.zero_le _, fun e ne => ⟨[], ⟨e, [], rfl, .inl (.inl upd_same), .nil⟩, ⟨(fun l h => by cases h), Nat.zero_le _⟩, But.same (same_new ne), B2.same (same_new ne)⟩⟩
    rintro vl H3 ⟨kl, hkl, okl, s3, B3⟩
    obtain ⟨y2, e2⟩ := B2.lst
    have sG3 := s2.trans s3
    have hbk := hBK0.but eg sG3
    have hq3 := sqT_but e2 s3 hq
    refine ⟨_, rfl, _, rfl, .ref t, q, n, cs, js, rfl, hbk, hq3, (fun j h => by rw [← lP]; exact hj j h), by omega, fun H4 w1 s4 hw1 => ?_⟩
    refine ⟨_, rfl, _, rfl, .ref t, vl, n, cs, kl, rfl, hbk.same s4, hkl.same s4, by omega, fun H5 w2 s5 hw2 => ⟨(by show 2 ≤ sizeLine; decide), fun l nl => ?_⟩⟩
    have r5 := same_new (o := .lst [w1, w2]) nl
    have hT : Paired (fun v cs => BookV K (upd H5 l (.lst [w1, w2])) v n cs) [w1, w2] [js.map fun j => cs.getD j [], cs ++ [kl]] := .cons (hw1.same (s5.trans r5)) (.cons (hw2.same r5) .nil)
    have el := upd_same (H := H5) (a := l) (o := .lst [w1, w2])
    have s35 := s4.trans (s5.trans r5)
    have gl : G l = none := (sG3.trans (But.same (s4.trans s5))).free (ne_bagK (B3.same (s4.trans s5)) nl) nl
    generalize upd H5 l (.lst [w1, w2]) = H6 at hT el s35 ⊢
    have hq6 := sqT_same s35 hq3
    have hc6 := sqT_same s35 (sqT_but eg sG3 hc)
    have hP6 := Paired.mono2 (fun _ _ h => LinesV.same s35 (LinesV.but eg sG3 h)) hP
    have ht6 := sqT_same s35 (sqT_but eg sG3 ht)
    have hkl6 := hkl.same s35
    have B6 := B3.same s35
    have sG6 := sG3.trans (But.same (b := b) s35)
    have lb : l ≠ b := ne_bagK hB gl
    refine ⟨_, rfl, _, rfl, q, rfl, ⟨iv js, hq6⟩, fun D2 hD2 => ?_⟩
    refine lc_tup (K := K) (a := q) (xs := iv js) (fun i H => ∃ zs, H D2 = some (.lst zs) ∧ Same H6 H ∧ Paired (LinesV K H) zs ((js.take i).map fun j => cs.getD j [])) ⟨[], upd_same, same_new hD2, .nil⟩ (fun i H _ ⟨_, _, s, _⟩ => sqT_same s hq6) ?_ ?_
    · rintro i x H hi ⟨zs, eD2, s, hz⟩
      obtain ⟨j, hj1, rfl⟩ := iv_get hi
      obtain ⟨il, ie⟩ := List.getElem?_eq_some_iff.mp hj1
      have ju := hj j (List.mem_of_getElem? hj1)
      obtain ⟨ls, hls, hx⟩ := Paired.get hP6 (List.getElem?_eq_getElem ju)
      have lz := Paired.len hz
      rw [List.length_map, List.length_take] at lz
      refine ⟨rfl, _, rfl, _, rfl, cb, us, (j : Int), us[j], rfl, rfl, sqT_same s hc6, atI_nat (List.getElem?_eq_getElem ju), zs, eD2, small1000 (by omega), zs ++ [us[j]], upd_same, same_mut s hD2, ?_⟩
      have e : cs.getD j [] = ls := by
        rw [List.getD_eq_getElem?_getD, hls]
        rfl
      rw [List.take_succ_eq_append_getElem il, ie, List.map_append]
      refine PySem.Paired.snoc (Paired.mono2 (fun _ _ h => LinesV.but eD2 But.at_ h) hz) ?_
      show LinesV K _ us[j] (cs.getD j [])
      rw [e]
      exact LinesV.but eD2 But.at_ (hx.same s)
    rintro H7 ⟨zs, eD2, s7, hz⟩
    rw [iv_len, List.take_length] at hz
    have lzs := Paired.len hz
    rw [List.length_map] at lzs
    refine ⟨D2, zs, rfl, .inl ⟨.inl (.inl eD2), fun p1 n1 => ⟨(by show 2 ≤ sizeLine; decide), fun p2 n2 => ?_⟩⟩⟩
    have t1 := same_new (o := .tup zs) n1
    have t2 := same_new (o := .tup [V.int (n : Int), V.ref p1]) n2
    have hb1 : BookV K (upd (upd H7 p1 (.tup zs)) p2 (.tup [V.int (n : Int), V.ref p1])) (.ref p2) n (js.map fun j => cs.getD j []) :=
      ⟨p2, p1, zs, rfl, .inl (.inl upd_same), .inl (.inl (t2 _ _ upd_same)), Paired.mono2 (fun _ _ h => LinesV.same (t1.trans t2) h) hz⟩
    have s78 := s7.trans (t1.trans t2)
    generalize upd (upd H7 p1 (.tup zs)) p2 (.tup [V.int (n : Int), V.ref p1]) = H8 at hb1 s78 ⊢
    refine ⟨_, rfl, _, rfl, _, rfl, (by show 1 ≤ sizeLine; decide), fun p3 n3 => ?_⟩
    have t3 := same_new (o := .tup [vl]) n3
    refine cat_seq (sqT_same (s78.trans t3) hc6) (.inl (.inl upd_same)) (Nat.le_of_lt (small1000 (by rw [List.length_singleton]; omega))) fun H9 p4 r4 h4 => ⟨(by show 2 ≤ sizeLine; decide), fun p5 n5 => ⟨(by show 2 ≤ sizeLine; decide), fun l2 nl2 => ?_⟩⟩
    have t5 := same_new (o := .tup [V.int (n : Int), V.ref p4]) n5
    have t6 := same_new (o := .lst [V.ref p2, V.ref p5]) nl2
    have s9 := t3.trans (r4.trans (t5.trans t6))
    have hb2 : BookV K (upd (upd H9 p5 (.tup [V.int (n : Int), V.ref p4])) l2 (.lst [V.ref p2, V.ref p5])) (.ref p5) n (cs ++ [kl]) :=
      ⟨p5, p4, _, rfl, .inl (.inl (t6 _ _ upd_same)), sqT_same (t5.trans t6) h4, PySem.Paired.snoc (Paired.mono2 (fun _ _ h => LinesV.same (s78.trans s9) h) hP6) (hkl6.same (s78.trans s9))⟩
    have hD : Paired (fun v cs => BookV K (upd (upd H9 p5 (.tup [V.int (n : Int), V.ref p4])) l2 (.lst [V.ref p2, V.ref p5])) v n cs) [V.ref p2, V.ref p5] [js.map fun j => cs.getD j [], cs ++ [kl]] := .cons (hb1.same s9) (.cons hb2 .nil)
    have el2 := upd_same (H := upd H9 p5 (.tup [V.int (n : Int), V.ref p4])) (a := l2) (o := .lst [V.ref p2, V.ref p5])
    have sA := s78.trans s9
    have n2 : H6 l2 = none := same_free (s78.trans (t3.trans (r4.trans t5))) nl2
    generalize upd (upd H9 p5 (.tup [V.int (n : Int), V.ref p4])) l2 (.lst [V.ref p2, V.ref p5]) = HA at hD el2 sA ⊢
    have elA := sA _ _ el
    have hTA := books_same sA hT
    have BA := B6.same sA
    have sGA := sG6.trans (But.same (b := b) sA)
    have n21 : l2 ≠ l := (ne_of_none el n2).symm
    have n2b : l2 ≠ b := ne_bagK B6 n2
    have g2 : G l2 = none := sG6.free n2b n2
    have hcA := sqT_same sA hc6
    have hPA := Paired.mono2 (fun _ _ h => LinesV.same sA h) hP6
    have htA := sqT_same sA ht6
    refine ⟨_, rfl, cb, us, rfl, .inr hcA, (us.length : Int), rfl, by omega, by omega, for_range (lo := 0) (n := us.length) (fun i σ H => ∃ y5 zs ws, σ = [some (.ref b), some (.ref t), some (.int (n : Int)), some (.ref cb), some (.ref q), y5, some vl, some (.ref l), some (.ref l2)] ∧ BagAt K H b c ∧ But b G H ∧ H l = some (.lst zs) ∧ H l2 = some (.lst ws) ∧
        Paired (fun v cs => BookV K H v n cs) zs (partsL cs js kl i) ∧ Paired (fun v cs => BookV K H v n cs) ws (partsL cs js kl i) ∧ SqT K H cb us ∧ Paired (LinesV K H) us cs ∧ SqT K H t [.int (n : Int), .ref cb])
      ⟨_, _, _, rfl, BA, sGA, elA, el2, by simpa [partsL] using hTA, by simpa [partsL] using hD, hcA, hPA, htA⟩ ?_ ?_⟩
    · rintro i σ H hi ⟨y5, zs, ws, rfl, Bi, si, ez, ew, hz, hw, hci, hPi, hti⟩
      have lz := Paired.len hz
      have lw := Paired.len hw
      have lpl : (partsL cs js kl i).length ≤ 27 := by
        unfold partsL
        rw [List.length_append, List.length_map, List.length_range]
        show 2 + i ≤ 27
        omega
      have z0 : (0 : Int) + (i : Int) = (i : Int) := Int.zero_add _
      rw [z0]
      refine ⟨_, rfl, .inl ⟨rfl, _, .inl (.inl ez)⟩, _, rfl, _, rfl, .ref t, i, n, cs, rfl, ⟨t, cb, us, rfl, hti, hci, hPi⟩, by omega, by omega, fun H2 w s2 hw2 => ?_⟩
      have ez2 := s2 _ _ ez
      refine ⟨l, zs, w, rfl, rfl, ez2, small1000 (by omega), ?_⟩
      have B2' := BagAt.mut hB gl (Bi.same s2) (o := .lst (zs ++ [w]))
      have si2 := but_mut (si.trans (But.same (b := b) s2)) gl (o := .lst (zs ++ [w]))
      have ez3 := upd_same (H := H2) (a := l) (o := .lst (zs ++ [w]))
      have ew3 : upd H2 l (.lst (zs ++ [w])) l2 = some (.lst ws) := by rw [upd_ne n21]; exact s2 _ _ ew
      have mv : But l H2 (upd H2 l (.lst (zs ++ [w]))) := But.at_
      have hz3 := PySem.Paired.snoc (books_but ez2 mv (books_same s2 hz)) (hw2.but ez2 mv)
      have hw3 := books_but ez2 mv (books_same s2 hw)
      have hc3 := sqT_but ez2 mv (sqT_same s2 hci)
      have hP3 := Paired.mono2 (fun _ _ h => LinesV.but ez2 mv (LinesV.same s2 h)) hPi
      have ht3 := sqT_but ez2 mv (sqT_same s2 hti)
      clear mv
      generalize upd H2 l (.lst (zs ++ [w])) = H3 at B2' si2 ez3 ew3 hz3 hw3 hc3 hP3 ht3 ⊢
      have ej : cutV us (some ((i + 1 : Nat) : Int)) none = us.drop (i + 1) := (cut_from (by omega)).1
      refine ⟨_, rfl, .inl ⟨rfl, _, .inl (.inl ew3)⟩, _, rfl, _, rfl, _, rfl, (i : Int), rfl, cut_use hc3 fun H4 p1 r1 h1 => ?_⟩
      rw [cut_take] at h1
      refine ⟨_, rfl, _, rfl, _, _, rfl, rfl, ((i + 1 : Nat) : Int), rfl, cut_fromU (sqT_same r1 hc3) fun H5 p2 r2 h2 => ?_⟩
      rw [ej] at h2
      refine cat_seq (sqT_same r2 h1) h2 (Nat.le_of_lt (small1000 (by rw [List.length_take, List.length_drop]; omega))) fun H6 p3 r3 h3 => ⟨(by show 2 ≤ sizeLine; decide), fun p4 n4 => ?_⟩
      have r4 := same_new (o := .tup [V.int (n : Int), V.ref p3]) n4
      have s := r1.trans (r2.trans (r3.trans r4))
      have hb4 : BookV K (upd H6 p4 (.tup [V.int (n : Int), V.ref p3])) (.ref p4) n (outC cs i) :=
        ⟨p4, p3, _, rfl, .inl (.inl upd_same), sqT_same r4 h3, paired_append (paired_take i (Paired.mono2 (fun _ _ h => LinesV.same s h) hP3)) (paired_drop2 (i + 1) (Paired.mono2 (fun _ _ h => LinesV.same s h) hP3))⟩
      generalize upd H6 p4 (.tup [V.int (n : Int), V.ref p3]) = H7 at hb4 s ⊢
      have ew7 := s _ _ ew3
      have mv : But l2 H7 (upd H7 l2 (.lst (ws ++ [V.ref p4]))) := But.at_
      refine ⟨l2, ws, .ref p4, rfl, rfl, ew7, small1000 (by omega), _, zs ++ [w], ws ++ [V.ref p4], rfl, BagAt.mut hB g2 (B2'.same s), but_mut (si2.trans (But.same (b := b) s)) g2, ?_, upd_same, ?_, ?_, ?_, ?_, ?_⟩
      · rw [upd_ne (Ne.symm n21)]
        exact s _ _ ez3
      · rw [partsL_snoc]
        exact books_but ew7 mv (books_same s hz3)
      · rw [partsL_snoc]
        exact PySem.Paired.snoc (books_but ew7 mv (books_same s hw3)) (hb4.but ew7 mv)
      · exact sqT_but ew7 mv (sqT_same s hc3)
      · exact Paired.mono2 (fun _ _ h => LinesV.but ew7 mv (LinesV.same s h)) hP3
      · exact sqT_but ew7 mv (sqT_same s ht3)
    · rintro σ H ⟨y5, zs, ws, rfl, Bi, si, ez, ew, hz, hw, _, _, _⟩
      rw [lP] at hz hw hj lj
      obtain ⟨f1, f2, f3⟩ := partsL_facts n12 ok okl l25 hj (Nat.le_trans lj l25)
      exact ⟨_, rfl, _, rfl, .ref l, .ref l2, _, rfl, .lst (.inl (.inl ez)) (dp_books hz), .lst (.inl (.inl ew)) (dp_books hw), f1, f2, f3, kk H si Bi⟩
end
end Es
set_option Elab.async false
set_option linter.all false
set_option maxRecDepth 100000
set_option maxHeartbeats 4000000
namespace Es
open PySem PySem.Spec PyProof.Rows L2 LamX
theorem sc_law_heard : FnScope ["act", "e"] ["act"] (defScope (topS 49)) := ⟨rfl, rfl, rfl, by decide +kernel, rfl, by decide +kernel, by decide +kernel⟩
def HearE3 (CW CN CT : Addr) (Q : VK) : XK := fun cls d H => ToldBy CW "place" "wrong" Q cls d H ∨ ToldBy CN "line" "text" Q cls d H ∨ ToldBy CT "most" "many" Q cls d H
def THear (F : VK → XK) : (XK → Hp → VK → Prop) → Hp → VK → Prop := fun tl H Q => ∃ (E : XK) (Q0 : VK), (∀ {cls d G}, E cls d G → F Q cls d G) ∧ (∀ {v G}, Q0 v G → ∀ p, G p = none → Q (.ref p) (upd G p (.tup [.str "told", v]))) ∧ tl E H Q0
structure Hear3 (K : PySem.W.Frag) (mg : Str → Option Value) (CW CN CT : Addr) : Prop where
  w : HearC K mg "Wrong" "place" CW
  n : HearC K mg "NoText" "line" CN
  t : HearC K mg "TooMany" "most" CT
  nw : PySem.W.exmOne K (.ref CN) (.ref CW) = some false
  tw : PySem.W.exmOne K (.ref CT) (.ref CW) = some false
  tn : PySem.W.exmOne K (.ref CT) (.ref CN) = some false
theorem gives_heard {X : Cx} {g CW CN CT : Addr} {cdv : Value} {q : Str} (T : Hear3 X.K X.mg CW CN CT) : Gives X ["act", "e"] "_law_heard" (defScope (topS 49)) g cdv (defBody (topS 49)) "act" q (THear (HearE3 CW CN CT)) := by
  intro f c s H Q tl act hc want
  refine ⟨_, pss_one (ps_tryAll (tb := fun W => tRet (tTup (tCons (tC (.str "told")) (tCons (fun τ G Q => ∃ Q0 : VK, (τ[0]? = some (some (.ref f)) ∧ G c = some (CodeO c q) ∧ ∃ E : XK, (∀ {cls d G2}, E cls d G2 → W cls d τ G2) ∧ tl E G Q0) ∧ ∀ v H1, Q0 v H1 → Q v H1) tNil))))
    (Wout := fun _ _ _ _ => False) rfl rfl sc_law_heard.nd takes0 (fun tk _ => pss_one (ps_ret (pe_tup (pa_cons pe_str (pa_cons (PE.wide (act tk)) pa_nil)))))
    (.named (c := .ref CW) (i := 1) ⟨rfl, by decide, .inl T.w.gC⟩ rfl rfl (fun hz hf => suiteField (i := 1) (n := "place") T.w hz hf rfl (.inl rfl))
      (.named (c := .ref CN) (i := 1) ⟨rfl, by decide, .inl T.n.gC⟩ rfl rfl (fun hz hf => suiteField (i := 1) (n := "line") T.n hz hf rfl (.inl rfl))
        (.named (c := .ref CT) (i := 1) ⟨rfl, by decide, .inl T.t.gC⟩ rfl rfl (fun hz hf => suiteField (i := 1) (n := "most") T.t hz hf rfl (.inl rfl)) .nil)))), ?_⟩
  obtain ⟨E, Q0, hE, hQ, ht⟩ := want
  refine ⟨Q0, ⟨rfl, hc, E, fun {cls d G2} he => ?_, ht⟩, fun v H1 hv => ⟨(by show 2 ≤ sizeLine; decide), fun p np => hQ hv p np⟩⟩
  rcases hE he with z | z | z
  · have e := z.1
    subst e
    exact ⟨true, T.w.me, fun _ a _ => suiteField_ok z rfl rfl, fun h => by cases h⟩
  · have e := z.1
    subst e
    exact ⟨false, T.nw, (fun h => by cases h), fun _ => ⟨true, T.n.me, fun _ a _ => suiteField_ok z rfl rfl, fun h => by cases h⟩⟩
  · have e := z.1
    subst e
    exact ⟨false, T.tw, (fun h => by cases h), fun _ => ⟨false, T.tn, (fun h => by cases h), fun _ => ⟨true, T.t.me, fun _ a _ => suiteField_ok z rfl rfl, fun h => by cases h⟩⟩⟩
end Es
set_option Elab.async false
set_option linter.all false
set_option maxRecDepth 100000
set_option maxHeartbeats 4000000
namespace Es
open PySem PySem.Spec PyProof.Rows L2 LamX
theorem pss_no {X : Cx} {sts : List Stmt} : PSs X sts (fun _ _ _ => False) := ⟨fun _ _ _ _ _ _ h => h.elim⟩
abbrev s_iniT : Stmt := inClass (topS 3) 0
theorem sc_iniT : FnScope ["self", "most"] ["self", "most"] (defScope s_iniT) := ⟨rfl, rfl, rfl, by decide +kernel, rfl, by decide +kernel, by decide +kernel⟩
def sp_models13 (K : PySem.W.Frag) (CT : Addr) : Sp := fun vs H Q E => ∃ (t : Addr) (u : V), vs = [.ref t] ∧ SqT K H t [.int 13, u] ∧ ∀ d, H d = none → E (.ref CT) (some d) (upd H d (.xd [(("most" : Str), .int 12)]))
section
variable {P : Program} {w : World} {K : PySem.W.Frag} {mg : Str → Option Value} {base : Heap}
theorem ok_models13 {f fT CT : Addr} {fd fdT : FuncData} (F : Fun K "models_of" "models_of" s_models_of f fd) (T : Txt mg) (TE : ErrC K mg "TooMany" "most" CT fT) (FI : Fun K "__init__" "TooMany.__init__" s_iniT fT fdT) (bI : Binds K fdT ["self", "most"] []) :
    FnR P w K mg base 3 f fd ["book"] (sp_models13 K CT) := by
  refine okR F sc_models_of (fun h => ?_) (fun cdv B out t0 G ys R E hr hg tk h => ?_)
  · obtain ⟨t, u, rfl, _⟩ := h
    rfl
  · refine ⟨_, (pss_cons
      (ps_asg (pv 0) (pg_tup (by rfl) (pgs_cons (pg_name (i := 1) sc_models_of.nd rfl (.inl rfl)) (pgs_cons (pg_name (i := 2) sc_models_of.nd rfl (.inl rfl)) pgs_nil))))
      (pss_cons
      (ps_if (pt_cmpR op_gt (pv 1) (pe_globI rfl T.g_MOST_UNKNOWNS) (nomark _))
      (pss_one (ps_raiseErr rfl TE (ok_err FI sc_iniT rfl (.inl rfl) (.inl rfl) (by decide) (by decide)) bI hr tk (by rfl) (pa_cons (pe_globI rfl T.g_MOST_UNKNOWNS) pa_nil)))
      pss_nil)
      pss_no)), ?_⟩
    obtain ⟨t, u, rfl, ht, k⟩ := h
    refine ⟨_, rfl, t, _, rfl, ht, rfl, .int 13, _, rfl, u, [], rfl, rfl, ?_⟩
    refine ⟨_, rfl, _, _, rfl, rfl, ⟨_, rfl, ?_⟩⟩
    rw [show decide ((12 : Int) < (13 : Int)) = true from rfl]
    refine iteT ?_
    exact ⟨.int 12, rfl, fun d nd => k d nd⟩
def sp_law03 (lp : Addr) (K : PySem.W.Frag) : Sp := fun vs H Q _ => ∃ (a : Addr) (ns : List Int), vs = [.ref a] ∧ SqL K H a (ns.map V.int) ∧ ns.length ≤ 63 ∧ H lp = some (.tbl #[]) ∧ ∀ H', Q (.bl true) H'
theorem sqT_ext {H H2 : Hp} {a : Addr} {xs : List V} (s : ExtN H H2) (h : SqT K H a xs) : SqT K H2 a xs := by
  rcases h with (h | ⟨o, h⟩) | h
  · exact .inl (.inl (s _ _ h (fun ps z => by cases z)))
  · exact .inl (.inr ⟨o, s _ _ h (fun ps z => by cases z)⟩)
  · exact .inr h
theorem ok_law {f fh CT CW CN lc lp : Addr} {oc kV doc pm ct : Value} {od an : Option Addr} {osl : Array (Option Value)} {och kVh doch pmh cdh cth : Value} {odh anh : Option Addr} {oslh : Array (Option Value)}
    (lk : K.lookup f = some ⟨oc, od, .func (PySem.W.fnOf "law" "law" (defArgs s_law) (defBody s_law) (defScope s_law) .none kV doc pm an (.ref lc) ct), osl⟩) (cod : PySem.W.codeIn K (.ref lc) "law" = true) (T : Txt mg)
    (lkh : K.lookup fh = some ⟨och, odh, .func (PySem.W.fnOf "_law_heard" "_law_heard" (defArgs (topS 49)) (defBody (topS 49)) (defScope (topS 49)) .none kVh doch pmh anh cdh cth), oslh⟩) (codh : PySem.W.codeIn K cdh "_law_heard" = true) (gh : mg "_law_heard" = some (.ref fh)) (kh : PySem.W.keepIn K (.ref fh) = true)
    (bh : Binds K (PySem.W.fnOf "_law_heard" "_law_heard" (defArgs (topS 49)) (defBody (topS 49)) (defScope (topS 49)) .none kVh doch pmh anh cdh cth) ["act"] [])
    (TH : Hear3 K mg CW CN CT) (TB : TabB base mg lc lp) (cM : CalleeR P w K mg base 3 "models_of" ["book"] (sp_models13 K CT)) (c_law_bag : CalleeOf P w K mg base 1 "_law_bag" ["script"] (sp_law_bag K)) (c_law_book : CalleeOf P w K mg base 7 "_law_book" ["bag", "many", "most"] (sp_law_bookZ K)) (c_law_are_models_right : CalleeOf P w K mg base 6 "_law_are_models_right" ["book"] (sp_law_are_models_right K)) (c_law_is_missed_right : CalleeOf P w K mg base 5 "_law_is_missed_right" ["bag", "book"] (sp_law_is_missed_right K)) (c_law_are_parts_right : CalleeOf P w K mg base 5 "_law_are_parts_right" ["bag", "book"] (sp_law_are_parts_right K)) (c_law_take : CalleeOf P w K mg base 1 "_law_take" ["bag", "many"] (sp_law_take K)) (c_law_some : CalleeOf P w K mg base 2 "_law_some" ["bag", "things"] (sp_law_some K)) (c_law_alike : CalleeOf P w K mg base 1 "_law_alike" ["found", "due"] (sp_law_alike K)) :
    FnG P w K mg base 8 f (PySem.W.fnOf "law" "law" (defArgs s_law) (defBody s_law) (defScope s_law) .none kV doc pm an (.ref lc) ct) ["script"] (sp_law03 lp K) := by
  refine fng_of lk cod sc_law (fun h => ?_) (fun B out t0 G ys R E hr hg h => ?_)
  · obtain ⟨a, ns, rfl, _⟩ := h
    rfl
  · suffices hh : ∃ r, PSs (cxOf CX0 P w K mg base ["script", "bag", "turn", "book", "kept", "many", "wide", "unknown"] "law" (defScope s_law) f (.ref lc) B out t0 G E).nox (defBody s_law) r ∧ r { nx := fun _ G' => R .non G', rt := R } (L2.start ["script", "bag", "turn", "book", "kept", "many", "wide", "unknown"] ys) G from by
      obtain ⟨r, h1, h2⟩ := hh
      exact ⟨r, h1.nox, h2⟩
    obtain ⟨a, ns, rfl, hS, hl, hT, k⟩ := h
    refine ⟨_, (pss_cons
        (ps_set (i := 1) sc_law.nd rfl (Or.inr rfl) (pe_callC c_law_bag (hr.mono (by decide)) hg (by rfl) (pa_cons (pv 0) pa_nil)))
        (pss_cons
        (ps_for PassesOwn.never rfl (pi_range1 (by rfl) T.z_range (pa_cons pe_int pa_nil)) (pg_name (i := 2) sc_law.nd rfl (.inl rfl))
        (pss_cons
          (ps_set (i := 3) sc_law.nd rfl (Or.inl rfl) (pe_callC c_law_book (hr.mono (by decide)) hg (by rfl) (pa_cons (pv 1) (pa_cons pe_int (pa_cons pe_int pa_nil)))))
          (pss_cons
          (ps_set (i := 4) sc_law.nd rfl (Or.inl rfl) (pe_callB (cr_repr hg hr.units) (by rfl) T.z_repr (by decide +kernel) (pa_cons (pv 3) pa_nil)))
          (pss_cons
          (ps_if (PW.pt (pw_or (pt_not (pt_val (pe_callC c_law_is_missed_right (hr.mono (by decide)) hg (by rfl) (pa_cons (pv 1) (pa_cons (pv 3) pa_nil))))) (pw_or1 (pt_not (pt_val (pe_callC c_law_are_models_right (hr.mono (by decide)) hg (by rfl) (pa_cons (pv 3) pa_nil)))))))
          (pss_one
            (ps_ret pe_bl))
          pss_nil)
          (pss_one
          (ps_if (PW.pt (pw_or (pt_not (pt_val (pe_callC c_law_are_parts_right (hr.mono (by decide)) hg (by rfl) (pa_cons (pv 1) (pa_cons (pv 3) pa_nil))))) (pw_or1 (pt_cmpR op_ne (pe_callB (cr_repr hg hr.units) (by rfl) T.z_repr (by decide +kernel) (pa_cons (pv 3) pa_nil)) (pv 4) (nomark _)))))
          (pss_one
            (ps_ret pe_bl))
          pss_nil))))))
        (pss_cons
        (ps_if (pt_cmpR op_gt (pe_callC c_law_take (hr.mono (by decide)) hg (by rfl) (pa_cons (pv 1) (pa_cons pe_int pa_nil))) pe_int (nomark _))
        (pss_one
          (ps_ret pe_bl))
        pss_nil)
        (pss_cons
        (ps_set (i := 5) sc_law.nd rfl (Or.inl rfl) (pe_callC c_law_some (hr.mono (by decide)) hg (by rfl) (pa_cons (pv 1) (pa_cons (pe_lst (pa_cons pe_int (pa_cons pe_int (pa_cons pe_int pa_nil)))) pa_nil))))
        (pss_cons
        (ps_set (i := 6) sc_law.nd rfl (Or.inr rfl) (pe_tup (pa_cons (pv 5) (pa_cons (pe_callTy call_tuple_of (by rfl) T.z_tuple (by decide +kernel) (pa_cons (pe_lc (own := [("unknown", 7)]) rfl sc_law.nd (pi_range1 (by rfl) T.z_range (pa_cons (pe_op op_sub (pv 5) pe_int) pa_nil)) (blkOk_by (own := [("unknown", 7)]) (N := ["script", "bag", "turn", "book", "kept", "many", "wide", "unknown"]) (sc := defScope s_law) (by decide +kernel)) (fun _ _ _ _ _ => (pg_name (i := 7) sc_law.nd rfl (.inl rfl))) (fun _ _ _ _ _ => pts_nil) (fun _ _ _ _ _ => (pe_tup (pa_cons (pe_tup (pa_cons (pe_tup (pa_cons (pv 7) pa_nil)) (pa_cons (pe_callC c_law_take (hr.mono (by decide)) hg (by rfl) (pa_cons (pv 1) (pa_cons pe_int pa_nil))) pa_nil))) pa_nil)))) pa_nil)) pa_nil))))
        (pss_cons
        (ps_if (pt_cmpR op_eq (pv 5) pe_int (nomark _))
        (pss_one
          (ps_set (i := 6) sc_law.nd rfl (Or.inr rfl) (pe_tup (pa_cons pe_int (pa_cons (pe_callC c_law_some (hr.mono (by decide)) hg (by rfl) (pa_cons (pv 1) (pa_cons (pe_lst (pa_cons (pe_ix ix_tup (pv 6) pe_int (fun _ _ => rfl)) (pa_cons (pe_tup pa_nil) (pa_cons (pe_op op_catA (pe_ix ix_tup (pv 6) pe_int (fun _ _ => rfl)) (pe_tup (pa_cons (pe_tup pa_nil) pa_nil))) pa_nil)))) pa_nil))) pa_nil)))))
        pss_nil)
        (pss_cons
        (ps_if (pt_cmpR op_eq (pv 5) pe_int (nomark _))
        (pss_one
          (ps_ret (pe_callC c_law_are_models_right (hr.mono (by decide)) hg (by rfl) (pa_cons (pv 6) pa_nil))))
        pss_nil)
        (pss_one
        (ps_ret (pe_callC c_law_alike (hr.mono (by decide)) hg (by rfl) (pa_cons (pe_lamG (T := [(lp, _)]) (TT := THear (HearE3 CW CN CT)) (t := fun E => tCallS (sp_models13 K CT) (fun _ => E) (tCons (tVar 6) tNil)) (k := 3) (by rfl) gh kh lkh codh bh sc_law_heard (gives_heard TH) rfl (.inl rfl) TB rfl List.mem_cons_self (fun p h _ => by rw [List.mem_singleton.mp h]) (hr.mono (by decide)) hg (lamS_by (sc := defScope s_law) (by decide +kernel)) rfl (fun _ _ _ _ _ => rfl)
            (fun A outer s H E f c r2 g2 => pe_callR (E := fun _ => E) cM r2 g2 (by rfl) (fun σ => passAt (takes_of rfl rfl rfl rfl) σ) (pa_cons (pe_var (i := 6) rfl (.inr (.inr rfl))) pa_nil))) (pa_cons (pe_tup (pa_cons pe_str (pa_cons pe_int pa_nil))) pa_nil)))))))))))), ?_⟩
    refine ⟨_, rfl, a, ns, rfl, hS, hl, fun H0 b c s0 nb nc hB0 => ?_⟩
    have lb : lp ≠ b := ne_of_none hT nb
    have hT0 := s0 _ _ hT
    obtain ⟨y0, e0⟩ := hB0.lst
    refine ⟨3, rfl, by decide, by decide, for_range (lo := 0) (n := 3) (fun i σ H => ∃ y2 y3 y4, σ = [some (.ref a), some (.ref b), y2, y3, y4, none, none, none] ∧ BagAt K H b c ∧ But b H0 H)
      ⟨_, _, _, rfl, hB0, But.refl _ _⟩ ?_ ?_⟩
    · rintro i σ H hi ⟨y2, y3, y4, rfl, hB, sH⟩
      refine ⟨_, rfl, b, c, 8, 10, rfl, hB, by decide, by decide, by decide, by decide, fun H1 v m cs s1 B1 mn hv ok lk => ?_⟩
      obtain ⟨f1, f2, f3⟩ := bookD_facts (n := m) (by omega) ok
      have okW : ∀ ls ∈ cs, ClOkW m ls := fun ls hl => ⟨fun l h => ⟨((ok ls hl).1 l h).1, ((ok ls hl).1 l h).2.2⟩, by have := (ok ls hl).2; omega⟩
      refine ⟨_, rfl, v, bookD m cs, rfl, dp_bookD hv, f1, by omega, by omega, ?_⟩
      refine ⟨_, rfl, _, rfl, b, c, v, m, cs, rfl, B1, hv, by omega, okW, by omega, fun H2 s2 B2 => ?_⟩
      obtain ⟨y1, e1⟩ := B1.lst
      have hv2 := hv.but e1 s2
      refine ⟨_, rfl, iteF ⟨_, rfl, v, m, cs, rfl, hv2, by omega, ok, by omega, fun H3 s3 => ⟨_, rfl, iteF ?_⟩⟩⟩
      refine ⟨_, rfl, _, rfl, b, c, v, m, cs, rfl, B2.same s3, hv2.same s3, by omega, ok, by omega, fun H4 s4 B4 => ⟨_, rfl, iteF ?_⟩⟩
      obtain ⟨y3, e3⟩ := (B2.same s3).lst
      have hv4 := (hv2.same s3).but e3 s4
      refine ⟨_, rfl, v, bookD m cs, rfl, dp_bookD hv4, f1, by omega, by omega, ?_⟩
      refine ⟨_, rfl, rfl, _, rfl, ?_⟩
      rw [show (!decide (V.str (bookD m cs).shown = V.str (bookD m cs).shown)) = false by simp]
      exact iteF ⟨_, _, _, rfl, B4, (((sH.trans s1).trans s2).trans (But.same s3)).trans s4⟩
    · rintro σ H ⟨y2, y3, y4, rfl, hB, sH⟩
      have hTH := sH _ _ lb hT0
      refine ⟨_, rfl, b, c, 4, rfl, hB, by decide, by decide, fun H1 r1 s1 B1 hr1 => ⟨_, _, rfl, rfl, _, rfl, ite2 (fun _ => k _) (fun _ => ?_)⟩⟩
      obtain ⟨y1, e1⟩ := B1.lst
      have hT1 := s1 _ _ lb hTH
      refine ⟨_, rfl, (by show 3 ≤ sizeLine; decide), fun l nl => ?_⟩
      have sl := same_new (o := .lst [V.int 12, V.int 13, V.int 13]) nl
      refine ⟨b, c, l, _, rfl, B1.same sl, (ne_of_none e1 nl).symm, .inl (.inl (.inl upd_same)), by show 0 < 3; decide, by show 3 < 1073741824; decide, fun H2 r v s2 B2 hv => ?_⟩
      obtain ⟨n, rfl, nn⟩ : ∃ n : Nat, v = .int (n : Int) ∧ (n = 12 ∨ n = 13) := by
        rcases r with _ | _ | _ | r
        · exact ⟨12, (Option.some.inj hv).symm, .inl rfl⟩
        · exact ⟨13, (Option.some.inj hv).symm, .inr rfl⟩
        · exact ⟨13, (Option.some.inj hv).symm, .inr rfl⟩
        · simp at hv
      have hT2 := s2 _ _ lb (sl _ _ hT1)
      clear hv
      have en : (n : Int) - 2 = ((n - 2 : Nat) : Int) := by omega
      refine ⟨_, rfl, _, rfl, _, _, rfl, rfl, ((n - 2 : Nat) : Int), congrArg (fun z => [V.int z]) en, by omega, by omega, fun D hD => ?_⟩
      obtain ⟨y2, e2⟩ := B2.lst
      have nDb : D ≠ b := ne_bagK B2 hD
      have lD : lp ≠ D := ne_of_none hT2 hD
      refine lc_range (lo := 0) (n := n - 2) (fun i H => ∃ zs cs, H D = some (.lst zs) ∧ But b H2 H ∧ BagAt K H b c ∧ Paired (LinesV K H) zs cs ∧ (∀ ls ∈ cs, ClOkZ n ls) ∧ cs.length = i)
        ⟨[], [], upd_same, But.new hD, B2.same (same_new hD), .nil, (fun ls h => by cases h), rfl⟩ ?_ ?_
      · rintro i H hi ⟨zs, cs, eD, s3, B3, hz, ok, lc⟩
        obtain ⟨y3, e3⟩ := B3.lst
        have lz := Paired.len hz
        rw [Int.zero_add]
        refine ⟨rfl, _, rfl, (by show 1 ≤ sizeLine; decide), fun q1 n1 => ?_⟩
        have r1 := same_new (o := .tup [V.int ((i : Nat) : Int)]) n1
        have hq1 : SumV K (upd H q1 (.tup [V.int ((i : Nat) : Int)])) (.ref q1) (2 ^ i) := ⟨q1, rfl, .inl (.inl (by rw [upd_same, bts_pow (by omega)]; rfl))⟩
        refine ⟨_, rfl, b, c, 2, rfl, B3.same r1, by decide, by decide, fun H4 r s4 B4 hr => ?_⟩
        obtain ⟨y4, e4⟩ := (B3.same r1).lst
        have hq4 := hq1.but e4 s4
        refine ⟨(by show 2 ≤ sizeLine; decide), fun q2 n2 => ?_⟩
        have r2 := same_new (o := .tup [V.ref q1, V.int (r : Int)]) n2
        have hl2 : LineV K (upd H4 q2 (.tup [V.ref q1, V.int (r : Int)])) (.ref q2) (2 ^ i, r) := ⟨q2, .ref q1, rfl, .inl (.inl upd_same), hq4.same r2⟩
        refine ⟨(by show 1 ≤ sizeLine; decide), fun q3 n3 => ?_⟩
        have r3 := same_new (o := .tup [V.ref q2]) n3
        have hl3 : LinesV K (upd (upd H4 q2 (.tup [V.ref q1, V.int (r : Int)])) q3 (.tup [V.ref q2])) (.ref q3) [(2 ^ i, r)] := ⟨q3, _, rfl, .inl (.inl upd_same), .cons (hl2.same r3) .nil⟩
        have sA := ((But.same (b := b) r1).trans s4).trans (But.same (r2.trans r3))
        have eD5 := (r2.trans r3) _ _ (s4 _ _ nDb (r1 _ _ eD))
        have hz5 := Paired.mono2 (fun _ _ h => LinesV.same (r2.trans r3) (LinesV.but e4 s4 (LinesV.same r1 h))) hz
        have B5 := B4.same (r2.trans r3)
        generalize upd (upd H4 q2 (.tup [V.ref q1, V.int (r : Int)])) q3 (.tup [V.ref q2]) = H5 at hl3 sA eD5 hz5 B5 ⊢
        refine ⟨zs, eD5, small1000 (by omega), zs ++ [V.ref q3], cs ++ [[(2 ^ i, r)]], upd_same, but_mut (s3.trans sA) hD, BagAt.mut B2 hD B5, ?_, ?_, by rw [List.length_append, lc]; rfl⟩
        · exact PySem.Paired.snoc (Paired.mono2 (fun _ _ h => LinesV.but eD5 But.at_ h) hz5) (hl3.but eD5 But.at_)
        · intro ls h
          rcases List.mem_append.mp h with h | h
          · exact ok ls h
          · rw [List.mem_singleton.mp h]
            refine ⟨fun l h => ?_, by show 1 ≤ 7; decide⟩
            rw [List.mem_singleton.mp h]
            exact ⟨Nat.pow_lt_pow_right (by decide) (by omega), Nat.pos_iff_ne_zero.mp (Nat.two_pow_pos i), hr⟩
      rintro H3 ⟨zs, cs, eD, s3, B3, hz, ok, lc⟩
      have hT3 := s3 _ _ lb hT2
      refine ⟨D, zs, rfl, .inl ⟨.inl (.inl eD), fun p1 n1 => ⟨(by show 2 ≤ sizeLine; decide), fun p2 n2 => ?_⟩⟩⟩
      have r1 := same_new (o := .tup zs) n1
      have r2 := same_new (o := .tup [V.int (n : Int), V.ref p1]) n2
      have hbk : BookV K (upd (upd H3 p1 (.tup zs)) p2 (.tup [V.int (n : Int), V.ref p1])) (.ref p2) n cs := ⟨p2, p1, zs, rfl, .inl (.inl upd_same), .inl (.inl (r2 _ _ upd_same)), Paired.mono2 (fun _ _ h => LinesV.same (r1.trans r2) h) hz⟩
      have hz1 : SqT K (upd (upd H3 p1 (.tup zs)) p2 (.tup [V.int (n : Int), V.ref p1])) p1 zs := .inl (.inl (r2 _ _ upd_same))
      have hp2 : SqT K (upd (upd H3 p1 (.tup zs)) p2 (.tup [V.int (n : Int), V.ref p1])) p2 [V.int (n : Int), V.ref p1] := .inl (.inl upd_same)
      have hT4 := (r1.trans r2) _ _ hT3
      have B4 := B3.same (r1.trans r2)
      generalize upd (upd H3 p1 (.tup zs)) p2 (.tup [V.int (n : Int), V.ref p1]) = H4 at hbk hz1 hp2 hT4 B4 ⊢
      rcases nn with rfl | rfl
      · refine ⟨_, rfl, rfl, _, rfl, ite2 (fun hc => absurd hc (by decide)) (fun _ => ?_)⟩
        refine ⟨_, rfl, rfl, _, rfl, ite2 (fun _ => ?_) (fun hc => absurd rfl hc)⟩
        exact ⟨_, rfl, .ref p2, 12, cs, rfl, hbk, by decide, ok, by omega, fun H5 s5 => k _⟩
      · refine ⟨_, rfl, rfl, _, rfl, ite2 (fun _ => ?_) (fun hc => absurd rfl hc)⟩
        obtain ⟨y4, e4⟩ := B4.lst
        refine ⟨_, rfl, _, rfl, p2, _, 1, .ref p1, rfl, rfl, hp2, rfl, Nat.zero_le _, fun e ne => ?_⟩
        have r5 := same_new (o := .tup []) ne
        refine ⟨_, rfl, p2, _, 1, .ref p1, rfl, rfl, sqT_same r5 hp2, rfl, Nat.zero_le _, fun e2 ne2 => ⟨(by show 1 ≤ sizeLine; decide), fun e3 ne3 => ?_⟩⟩
        have r6 := same_new (o := .tup []) ne2
        have r7 := same_new (o := .tup [V.ref e2]) ne3
        have s57 := r5.trans (r6.trans r7)
        refine cat_seq (sqT_same s57 hz1) (.inl (.inl upd_same)) ?_ fun H5 q s5 hq => ?_
        · have lz := Paired.len hz
          refine Nat.le_of_lt (small1000 ?_)
          rw [List.length_singleton, lz, lc]
          decide
        refine ⟨(by show 3 ≤ sizeLine; decide), fun l2 nl2 => ?_⟩
        have r8 := same_new (o := .lst [V.ref p1, V.ref e, V.ref q]) nl2
        have s58 := s57.trans (s5.trans r8)
        have B5 := B4.same s58
        have hT5 := s58 _ _ hT4
        have el := upd_same (H := H5) (a := l2) (o := .lst [V.ref p1, V.ref e, V.ref q])
        have nlb : l2 ≠ b := ne_bagK (B4.same (s57.trans s5)) nl2
        generalize upd H5 l2 (.lst [V.ref p1, V.ref e, V.ref q]) = H6 at B5 hT5 el ⊢
        refine ⟨b, c, l2, _, rfl, B5, nlb, .inl (.inl (.inl el)), by show 0 < 3; decide, by show 3 < 1073741824; decide, fun H7 r7 v7 s7 B7 hv7 => ⟨(by show 2 ≤ sizeLine; decide), fun p8 n8 => ?_⟩⟩
        have hT7 := s7 _ _ lb hT5
        have r9 := same_new (o := .tup [V.int 13, v7]) n8
        have hT8 := r9 _ _ hT7
        have hp8 : SqT K (upd H7 p8 (.tup [V.int 13, v7])) p8 [V.int 13, v7] := .inl (.inl upd_same)
        generalize upd H7 p8 (.tup [V.int 13, v7]) = H8 at hT8 hp8 ⊢
        refine ⟨_, rfl, rfl, _, rfl, ite2 (fun hc => absurd hc (by decide)) (fun _ => ?_)⟩
        refine ⟨fun z hz => ?_, fun H9 ext _ => ⟨ToldBy CT "most" "many" _, fun _ _ => False, fun z => .inr (.inr z), fun z => z.elim, _, rfl, p8, v7, rfl, sqT_ext ext hp8, fun d nd => ⟨rfl, d, _, .int 12, rfl, upd_same, rfl, fun p np => ⟨(by show 2 ≤ sizeLine; decide), fun p10 n10 => ?_⟩⟩⟩⟩
        · rw [List.mem_singleton.mp hz]
          exact TabS.nil hT8
        have d1 : Dp K (upd (upd (upd H9 d (.xd [(("most" : Str), .int 12)])) p (.tup [.str "many", .int 12])) p10 (.tup [.str "many", .int 12])) (.ref p) (.tuple [.str "many", .int 12]) := .tup (.inl (.inl (same_new n10 _ _ upd_same))) (.cons (.str _) (.cons (.int _) .nil))
        have d2 : Dp K (upd (upd (upd H9 d (.xd [(("most" : Str), .int 12)])) p (.tup [.str "many", .int 12])) p10 (.tup [.str "many", .int 12])) (.ref p10) (.tuple [.str "many", .int 12]) := .tup (.inl (.inl upd_same)) (.cons (.str _) (.cons (.int _) .nil))
        exact ⟨_, _, _, rfl, d1, d2, by decide +kernel, by decide +kernel, by decide +kernel, k _⟩
end
end Es
namespace Es
open PySem PySem.Spec PyProof.Rows L2 LamX
theorem all_mk {l : PySem.W.OpenLaw} {w : World} {K : PySem.W.Frag} {h : Heap} {mg : Str → Option Value} {fa lc lp CW CN CT S N f1 f2 f3 f4 f5 f6 f7 f8 f9 f10 f11 f12 f13 f14 f15 f16 f17 f18 f19 f20 f21 f22 f23 f24 f25 f26 f27 f28 f29 f30 f31 f32 f33 f34 f35 f36 f37 f38 f39 f40 f41 f42 f43 f44 f45 f46 : Addr} (X : K.In h) (G : h.Ns mainGlobals mg) (hfa : mg "law" = some (.ref fa))
    {od1 an1 od2 an2 od3 an3 od4 an4 od5 an5 od6 an6 od7 an7 od8 an8 od9 an9 od10 an10 od11 an11 od12 an12 od13 an13 od14 an14 od15 an15 od16 an16 od17 an17 od18 an18 od19 an19 od20 an20 od21 an21 od22 an22 od23 an23 od24 an24 od25 an25 od26 an26 od27 an27 od28 an28 od29 an29 od30 an30 od31 an31 od32 an32 od33 an33 od34 an34 od35 an35 od36 an36 od37 an37 od38 an38 od39 an39 od40 an40 od41 an41 od42 an42 od43 an43 od44 an44 od45 an45 od46 an46 : Option Addr} {sl1 sl2 sl3 sl4 sl5 sl6 sl7 sl8 sl9 sl10 sl11 sl12 sl13 sl14 sl15 sl16 sl17 sl18 sl19 sl20 sl21 sl22 sl23 sl24 sl25 sl26 sl27 sl28 sl29 sl30 sl31 sl32 sl33 sl34 sl35 sl36 sl37 sl38 sl39 sl40 sl41 sl42 sl43 sl44 sl45 sl46 : Array (Option Value)} {oc1 kV1 dc1 pm1 cd1 ct1 oc2 kV2 dc2 pm2 cd2 ct2 oc3 kV3 dc3 pm3 cd3 ct3 oc4 kV4 dc4 pm4 cd4 ct4 oc5 kV5 dc5 pm5 cd5 ct5 oc6 kV6 dc6 pm6 cd6 ct6 oc7 kV7 dc7 pm7 cd7 ct7 oc8 kV8 dc8 pm8 cd8 ct8 oc9 kV9 dc9 pm9 cd9 ct9 oc10 kV10 dc10 pm10 cd10 ct10 oc11 kV11 dc11 pm11 cd11 ct11 oc12 kV12 dc12 pm12 cd12 ct12 oc13 kV13 dc13 pm13 cd13 ct13 oc14 kV14 dc14 pm14 cd14 ct14 oc15 kV15 dc15 pm15 cd15 ct15 oc16 kV16 dc16 pm16 cd16 ct16 oc17 kV17 dc17 pm17 cd17 ct17 oc18 kV18 dc18 pm18 cd18 ct18 oc19 kV19 dc19 pm19 cd19 ct19 oc20 kV20 dc20 pm20 cd20 ct20 oc21 kV21 dc21 pm21 cd21 ct21 oc22 kV22 dc22 pm22 cd22 ct22 oc23 kV23 dc23 pm23 cd23 ct23 oc24 kV24 dc24 pm24 cd24 ct24 oc25 kV25 dc25 pm25 cd25 ct25 oc26 kV26 dc26 pm26 cd26 ct26 oc27 kV27 dc27 pm27 cd27 ct27 oc28 kV28 dc28 pm28 cd28 ct28 oc29 kV29 dc29 pm29 cd29 ct29 oc30 kV30 dc30 pm30 cd30 ct30 oc31 kV31 dc31 pm31 cd31 ct31 oc32 kV32 dc32 pm32 cd32 ct32 oc33 kV33 dc33 pm33 cd33 ct33 oc34 kV34 dc34 pm34 cd34 ct34 oc35 kV35 dc35 pm35 cd35 ct35 oc36 kV36 dc36 pm36 cd36 ct36 oc37 kV37 dc37 pm37 cd37 ct37 oc38 kV38 dc38 pm38 cd38 ct38 oc39 kV39 dc39 pm39 cd39 ct39 oc40 kV40 dc40 pm40 cd40 ct40 oc41 kV41 dc41 pm41 cd41 ct41 oc42 kV42 dc42 pm42 cd42 ct42 oc43 kV43 dc43 pm43 cd43 ct43 oc44 kV44 dc44 pm44 ct44 oc45 kV45 dc45 pm45 cd45 ct45 oc46 kV46 dc46 pm46 cd46 ct46 : Value}
    {nm q : Str} {bs : List Value} {sn : List Str} {sub : List Value} {ab : Bool} {col : Option Bool} {dd : Option Addr} {m0 m1 m2 m3 m5 : Option Value} {tc : Tok}
    (a1 : PySem.W.nsIn K mainGlobals "_law_bag" = some (some (.ref f1))) (l1 : K.lookup f1 = some ⟨oc1, od1, .func (PySem.W.fnOf "_law_bag" "_law_bag" (defArgs s_law_bag) (defBody s_law_bag) (defScope s_law_bag) .none kV1 dc1 pm1 an1 cd1 ct1), sl1⟩) (c1 : PySem.W.codeIn K cd1 "_law_bag" = true) (k1 : PySem.W.keepIn K (.ref f1) = true)
    (a2 : PySem.W.nsIn K mainGlobals "_law_take" = some (some (.ref f2))) (l2 : K.lookup f2 = some ⟨oc2, od2, .func (PySem.W.fnOf "_law_take" "_law_take" (defArgs s_law_take) (defBody s_law_take) (defScope s_law_take) .none kV2 dc2 pm2 an2 cd2 ct2), sl2⟩) (c2 : PySem.W.codeIn K cd2 "_law_take" = true) (k2 : PySem.W.keepIn K (.ref f2) = true)
    (a3 : PySem.W.nsIn K mainGlobals "_law_some" = some (some (.ref f3))) (l3 : K.lookup f3 = some ⟨oc3, od3, .func (PySem.W.fnOf "_law_some" "_law_some" (defArgs s_law_some) (defBody s_law_some) (defScope s_law_some) .none kV3 dc3 pm3 an3 cd3 ct3), sl3⟩) (c3 : PySem.W.codeIn K cd3 "_law_some" = true) (k3 : PySem.W.keepIn K (.ref f3) = true)
    (a4 : PySem.W.nsIn K mainGlobals "_law_row" = some (some (.ref f4))) (l4 : K.lookup f4 = some ⟨oc4, od4, .func (PySem.W.fnOf "_law_row" "_law_row" (defArgs s_law_row) (defBody s_law_row) (defScope s_law_row) .none kV4 dc4 pm4 an4 cd4 ct4), sl4⟩) (c4 : PySem.W.codeIn K cd4 "_law_row" = true) (k4 : PySem.W.keepIn K (.ref f4) = true)
    (a5 : PySem.W.nsIn K mainGlobals "_law_any_row" = some (some (.ref f5))) (l5 : K.lookup f5 = some ⟨oc5, od5, .func (PySem.W.fnOf "_law_any_row" "_law_any_row" (defArgs s_law_any_row) (defBody s_law_any_row) (defScope s_law_any_row) .none kV5 dc5 pm5 an5 cd5 ct5), sl5⟩) (c5 : PySem.W.codeIn K cd5 "_law_any_row" = true) (k5 : PySem.W.keepIn K (.ref f5) = true)
    (a6 : PySem.W.nsIn K mainGlobals "_law_any_clause" = some (some (.ref f6))) (l6 : K.lookup f6 = some ⟨oc6, od6, .func (PySem.W.fnOf "_law_any_clause" "_law_any_clause" (defArgs s_law_any_clause) (defBody s_law_any_clause) (defScope s_law_any_clause) .none kV6 dc6 pm6 an6 cd6 ct6), sl6⟩) (c6 : PySem.W.codeIn K cd6 "_law_any_clause" = true) (k6 : PySem.W.keepIn K (.ref f6) = true)
    (a7 : PySem.W.nsIn K mainGlobals "_law_any_book" = some (some (.ref f7))) (l7 : K.lookup f7 = some ⟨oc7, od7, .func (PySem.W.fnOf "_law_any_book" "_law_any_book" (defArgs s_law_any_book) (defBody s_law_any_book) (defScope s_law_any_book) .none kV7 dc7 pm7 an7 cd7 ct7), sl7⟩) (c7 : PySem.W.codeIn K cd7 "_law_any_book" = true) (k7 : PySem.W.keepIn K (.ref f7) = true)
    (a8 : PySem.W.nsIn K mainGlobals "_law_worth" = some (some (.ref f8))) (l8 : K.lookup f8 = some ⟨oc8, od8, .func (PySem.W.fnOf "_law_worth" "_law_worth" (defArgs s_law_worth) (defBody s_law_worth) (defScope s_law_worth) .none kV8 dc8 pm8 an8 cd8 ct8), sl8⟩) (c8 : PySem.W.codeIn K cd8 "_law_worth" = true) (k8 : PySem.W.keepIn K (.ref f8) = true)
    (a9 : PySem.W.nsIn K mainGlobals "_law_planted_book" = some (some (.ref f9))) (l9 : K.lookup f9 = some ⟨oc9, od9, .func (PySem.W.fnOf "_law_planted_book" "_law_planted_book" (defArgs s_law_planted_book) (defBody s_law_planted_book) (defScope s_law_planted_book) .none kV9 dc9 pm9 an9 cd9 ct9), sl9⟩) (c9 : PySem.W.codeIn K cd9 "_law_planted_book" = true) (k9 : PySem.W.keepIn K (.ref f9) = true)
    (a10 : PySem.W.nsIn K mainGlobals "_law_mask" = some (some (.ref f10))) (l10 : K.lookup f10 = some ⟨oc10, od10, .func (PySem.W.fnOf "_law_mask" "_law_mask" (defArgs s_law_mask) (defBody s_law_mask) (defScope s_law_mask) .none kV10 dc10 pm10 an10 cd10 ct10), sl10⟩) (c10 : PySem.W.codeIn K cd10 "_law_mask" = true) (k10 : PySem.W.keepIn K (.ref f10) = true)
    (a11 : PySem.W.nsIn K mainGlobals "_law_mixed" = some (some (.ref f11))) (l11 : K.lookup f11 = some ⟨oc11, od11, .func (PySem.W.fnOf "_law_mixed" "_law_mixed" (defArgs s_law_mixed) (defBody s_law_mixed) (defScope s_law_mixed) .none kV11 dc11 pm11 an11 cd11 ct11), sl11⟩) (c11 : PySem.W.codeIn K cd11 "_law_mixed" = true) (k11 : PySem.W.keepIn K (.ref f11) = true)
    (a12 : PySem.W.nsIn K mainGlobals "_law_chain_book" = some (some (.ref f12))) (l12 : K.lookup f12 = some ⟨oc12, od12, .func (PySem.W.fnOf "_law_chain_book" "_law_chain_book" (defArgs s_law_chain_book) (defBody s_law_chain_book) (defScope s_law_chain_book) .none kV12 dc12 pm12 an12 cd12 ct12), sl12⟩) (c12 : PySem.W.codeIn K cd12 "_law_chain_book" = true) (k12 : PySem.W.keepIn K (.ref f12) = true)
    (a13 : PySem.W.nsIn K mainGlobals "_law_beside_book" = some (some (.ref f13))) (l13 : K.lookup f13 = some ⟨oc13, od13, .func (PySem.W.fnOf "_law_beside_book" "_law_beside_book" (defArgs s_law_beside_book) (defBody s_law_beside_book) (defScope s_law_beside_book) .none kV13 dc13 pm13 an13 cd13 ct13), sl13⟩) (c13 : PySem.W.codeIn K cd13 "_law_beside_book" = true) (k13 : PySem.W.keepIn K (.ref f13) = true)
    (a14 : PySem.W.nsIn K mainGlobals "_law_flat_of" = some (some (.ref f14))) (l14 : K.lookup f14 = some ⟨oc14, od14, .func (PySem.W.fnOf "_law_flat_of" "_law_flat_of" (defArgs s_law_flat_of) (defBody s_law_flat_of) (defScope s_law_flat_of) .none kV14 dc14 pm14 an14 cd14 ct14), sl14⟩) (c14 : PySem.W.codeIn K cd14 "_law_flat_of" = true) (k14 : PySem.W.keepIn K (.ref f14) = true)
    (a15 : PySem.W.nsIn K mainGlobals "_law_halves" = some (some (.ref f15))) (l15 : K.lookup f15 = some ⟨oc15, od15, .func (PySem.W.fnOf "_law_halves" "_law_halves" (defArgs s_law_halves) (defBody s_law_halves) (defScope s_law_halves) .none kV15 dc15 pm15 an15 cd15 ct15), sl15⟩) (c15 : PySem.W.codeIn K cd15 "_law_halves" = true) (k15 : PySem.W.keepIn K (.ref f15) = true)
    (a16 : PySem.W.nsIn K mainGlobals "_law_told" = some (some (.ref f16))) (l16 : K.lookup f16 = some ⟨oc16, od16, .func (PySem.W.fnOf "_law_told" "_law_told" (defArgs s_law_told) (defBody s_law_told) (defScope s_law_told) .none kV16 dc16 pm16 an16 cd16 ct16), sl16⟩) (c16 : PySem.W.codeIn K cd16 "_law_told" = true) (k16 : PySem.W.keepIn K (.ref f16) = true)
    (a17 : PySem.W.nsIn K mainGlobals "_law_new_row" = some (some (.ref f17))) (l17 : K.lookup f17 = some ⟨oc17, od17, .func (PySem.W.fnOf "_law_new_row" "_law_new_row" (defArgs s_law_new_row) (defBody s_law_new_row) (defScope s_law_new_row) .none kV17 dc17 pm17 an17 cd17 ct17), sl17⟩) (c17 : PySem.W.codeIn K cd17 "_law_new_row" = true) (k17 : PySem.W.keepIn K (.ref f17) = true)
    (a18 : PySem.W.nsIn K mainGlobals "_law_cut_up" = some (some (.ref f18))) (l18 : K.lookup f18 = some ⟨oc18, od18, .func (PySem.W.fnOf "_law_cut_up" "_law_cut_up" (defArgs s_law_cut_up) (defBody s_law_cut_up) (defScope s_law_cut_up) .none kV18 dc18 pm18 an18 cd18 ct18), sl18⟩) (c18 : PySem.W.codeIn K cd18 "_law_cut_up" = true) (k18 : PySem.W.keepIn K (.ref f18) = true)
    (a19 : PySem.W.nsIn K mainGlobals "_law_wider" = some (some (.ref f19))) (l19 : K.lookup f19 = some ⟨oc19, od19, .func (PySem.W.fnOf "_law_wider" "_law_wider" (defArgs s_law_wider) (defBody s_law_wider) (defScope s_law_wider) .none kV19 dc19 pm19 an19 cd19 ct19), sl19⟩) (c19 : PySem.W.codeIn K cd19 "_law_wider" = true) (k19 : PySem.W.keepIn K (.ref f19) = true)
    (a20 : PySem.W.nsIn K mainGlobals "_law_spoken" = some (some (.ref f20))) (l20 : K.lookup f20 = some ⟨oc20, od20, .func (PySem.W.fnOf "_law_spoken" "_law_spoken" (defArgs s_law_spoken) (defBody s_law_spoken) (defScope s_law_spoken) .none kV20 dc20 pm20 an20 cd20 ct20), sl20⟩) (c20 : PySem.W.codeIn K cd20 "_law_spoken" = true) (k20 : PySem.W.keepIn K (.ref f20) = true)
    (a21 : PySem.W.nsIn K mainGlobals "_law_cover_book" = some (some (.ref f21))) (l21 : K.lookup f21 = some ⟨oc21, od21, .func (PySem.W.fnOf "_law_cover_book" "_law_cover_book" (defArgs s_law_cover_book) (defBody s_law_cover_book) (defScope s_law_cover_book) .none kV21 dc21 pm21 an21 cd21 ct21), sl21⟩) (c21 : PySem.W.codeIn K cd21 "_law_cover_book" = true) (k21 : PySem.W.keepIn K (.ref f21) = true)
    (a22 : PySem.W.nsIn K mainGlobals "_law_book" = some (some (.ref f22))) (l22 : K.lookup f22 = some ⟨oc22, od22, .func (PySem.W.fnOf "_law_book" "_law_book" (defArgs s_law_book) (defBody s_law_book) (defScope s_law_book) .none kV22 dc22 pm22 an22 cd22 ct22), sl22⟩) (c22 : PySem.W.codeIn K cd22 "_law_book" = true) (k22 : PySem.W.keepIn K (.ref f22) = true)
    (a23 : PySem.W.nsIn K mainGlobals "_law_room" = some (some (.ref f23))) (l23 : K.lookup f23 = some ⟨oc23, od23, .func (PySem.W.fnOf "_law_room" "_law_room" (defArgs s_law_room) (defBody s_law_room) (defScope s_law_room) .none kV23 dc23 pm23 an23 cd23 ct23), sl23⟩) (c23 : PySem.W.codeIn K cd23 "_law_room" = true) (k23 : PySem.W.keepIn K (.ref f23) = true)
    (a24 : PySem.W.nsIn K mainGlobals "_law_bits" = some (some (.ref f24))) (l24 : K.lookup f24 = some ⟨oc24, od24, .func (PySem.W.fnOf "_law_bits" "_law_bits" (defArgs s_law_bits) (defBody s_law_bits) (defScope s_law_bits) .none kV24 dc24 pm24 an24 cd24 ct24), sl24⟩) (c24 : PySem.W.codeIn K cd24 "_law_bits" = true) (k24 : PySem.W.keepIn K (.ref f24) = true)
    (a25 : PySem.W.nsIn K mainGlobals "_law_least" = some (some (.ref f25))) (l25 : K.lookup f25 = some ⟨oc25, od25, .func (PySem.W.fnOf "_law_least" "_law_least" (defArgs s_law_least) (defBody s_law_least) (defScope s_law_least) .none kV25 dc25 pm25 an25 cd25 ct25), sl25⟩) (c25 : PySem.W.codeIn K cd25 "_law_least" = true) (k25 : PySem.W.keepIn K (.ref f25) = true)
    (a26 : PySem.W.nsIn K mainGlobals "_law_listed" = some (some (.ref f26))) (l26 : K.lookup f26 = some ⟨oc26, od26, .func (PySem.W.fnOf "_law_listed" "_law_listed" (defArgs s_law_listed) (defBody s_law_listed) (defScope s_law_listed) .none kV26 dc26 pm26 an26 cd26 ct26), sl26⟩) (c26 : PySem.W.codeIn K cd26 "_law_listed" = true) (k26 : PySem.W.keepIn K (.ref f26) = true)
    (a27 : PySem.W.nsIn K mainGlobals "_law_held" = some (some (.ref f27))) (l27 : K.lookup f27 = some ⟨oc27, od27, .func (PySem.W.fnOf "_law_held" "_law_held" (defArgs s_law_held) (defBody s_law_held) (defScope s_law_held) .none kV27 dc27 pm27 an27 cd27 ct27), sl27⟩) (c27 : PySem.W.codeIn K cd27 "_law_held" = true) (k27 : PySem.W.keepIn K (.ref f27) = true)
    (a28 : PySem.W.nsIn K mainGlobals "_law_kept" = some (some (.ref f28))) (l28 : K.lookup f28 = some ⟨oc28, od28, .func (PySem.W.fnOf "_law_kept" "_law_kept" (defArgs s_law_kept) (defBody s_law_kept) (defScope s_law_kept) .none kV28 dc28 pm28 an28 cd28 ct28), sl28⟩) (c28 : PySem.W.codeIn K cd28 "_law_kept" = true) (k28 : PySem.W.keepIn K (.ref f28) = true)
    (a29 : PySem.W.nsIn K mainGlobals "_law_all_kept" = some (some (.ref f29))) (l29 : K.lookup f29 = some ⟨oc29, od29, .func (PySem.W.fnOf "_law_all_kept" "_law_all_kept" (defArgs s_law_all_kept) (defBody s_law_all_kept) (defScope s_law_all_kept) .none kV29 dc29 pm29 an29 cd29 ct29), sl29⟩) (c29 : PySem.W.codeIn K cd29 "_law_all_kept" = true) (k29 : PySem.W.keepIn K (.ref f29) = true)
    (a30 : PySem.W.nsIn K mainGlobals "_last_unknown" = some (some (.ref f30))) (l30 : K.lookup f30 = some ⟨oc30, od30, .func (PySem.W.fnOf "_last_unknown" "_last_unknown" (defArgs s_last_unknown) (defBody s_last_unknown) (defScope s_last_unknown) .none kV30 dc30 pm30 an30 cd30 ct30), sl30⟩) (c30 : PySem.W.codeIn K cd30 "_last_unknown" = true) (k30 : PySem.W.keepIn K (.ref f30) = true)
    (a31 : PySem.W.nsIn K mainGlobals "worth_of" = some (some (.ref f31))) (l31 : K.lookup f31 = some ⟨oc31, od31, .func (PySem.W.fnOf "worth_of" "worth_of" (defArgs s_worth_of) (defBody s_worth_of) (defScope s_worth_of) .none kV31 dc31 pm31 an31 cd31 ct31), sl31⟩) (c31 : PySem.W.codeIn K cd31 "worth_of" = true) (k31 : PySem.W.keepIn K (.ref f31) = true)
    (a32 : PySem.W.nsIn K mainGlobals "holds" = some (some (.ref f32))) (l32 : K.lookup f32 = some ⟨oc32, od32, .func (PySem.W.fnOf "holds" "holds" (defArgs s_holds) (defBody s_holds) (defScope s_holds) .none kV32 dc32 pm32 an32 cd32 ct32), sl32⟩) (c32 : PySem.W.codeIn K cd32 "holds" = true) (k32 : PySem.W.keepIn K (.ref f32) = true)
    (a33 : PySem.W.nsIn K mainGlobals "keeps" = some (some (.ref f33))) (l33 : K.lookup f33 = some ⟨oc33, od33, .func (PySem.W.fnOf "keeps" "keeps" (defArgs s_keeps) (defBody s_keeps) (defScope s_keeps) .none kV33 dc33 pm33 an33 cd33 ct33), sl33⟩) (c33 : PySem.W.codeIn K cd33 "keeps" = true) (k33 : PySem.W.keepIn K (.ref f33) = true)
    (a34 : PySem.W.nsIn K mainGlobals "_keeps_all" = some (some (.ref f34))) (l34 : K.lookup f34 = some ⟨oc34, od34, .func (PySem.W.fnOf "_keeps_all" "_keeps_all" (defArgs s_keeps_all) (defBody s_keeps_all) (defScope s_keeps_all) .none kV34 dc34 pm34 an34 cd34 ct34), sl34⟩) (c34 : PySem.W.codeIn K cd34 "_keeps_all" = true) (k34 : PySem.W.keepIn K (.ref f34) = true)
    (a35 : PySem.W.nsIn K mainGlobals "models_of" = some (some (.ref f35))) (l35 : K.lookup f35 = some ⟨oc35, od35, .func (PySem.W.fnOf "models_of" "models_of" (defArgs s_models_of) (defBody s_models_of) (defScope s_models_of) .none kV35 dc35 pm35 an35 cd35 ct35), sl35⟩) (c35 : PySem.W.codeIn K cd35 "models_of" = true) (k35 : PySem.W.keepIn K (.ref f35) = true)
    (a36 : PySem.W.nsIn K mainGlobals "_law_alike" = some (some (.ref f36))) (l36 : K.lookup f36 = some ⟨oc36, od36, .func (PySem.W.fnOf "_law_alike" "_law_alike" (defArgs s_law_alike) (defBody s_law_alike) (defScope s_law_alike) .none kV36 dc36 pm36 an36 cd36 ct36), sl36⟩) (c36 : PySem.W.codeIn K cd36 "_law_alike" = true) (k36 : PySem.W.keepIn K (.ref f36) = true)
    (a37 : PySem.W.nsIn K mainGlobals "_law_are_models_right" = some (some (.ref f37))) (l37 : K.lookup f37 = some ⟨oc37, od37, .func (PySem.W.fnOf "_law_are_models_right" "_law_are_models_right" (defArgs s_law_are_models_right) (defBody s_law_are_models_right) (defScope s_law_are_models_right) .none kV37 dc37 pm37 an37 cd37 ct37), sl37⟩) (c37 : PySem.W.codeIn K cd37 "_law_are_models_right" = true) (k37 : PySem.W.keepIn K (.ref f37) = true)
    (a38 : PySem.W.nsIn K mainGlobals "missed" = some (some (.ref f38))) (l38 : K.lookup f38 = some ⟨oc38, od38, .func (PySem.W.fnOf "missed" "missed" (defArgs s_missed) (defBody s_missed) (defScope s_missed) .none kV38 dc38 pm38 an38 cd38 ct38), sl38⟩) (c38 : PySem.W.codeIn K cd38 "missed" = true) (k38 : PySem.W.keepIn K (.ref f38) = true)
    (a39 : PySem.W.nsIn K mainGlobals "_law_is_missed_right" = some (some (.ref f39))) (l39 : K.lookup f39 = some ⟨oc39, od39, .func (PySem.W.fnOf "_law_is_missed_right" "_law_is_missed_right" (defArgs s_law_is_missed_right) (defBody s_law_is_missed_right) (defScope s_law_is_missed_right) .none kV39 dc39 pm39 an39 cd39 ct39), sl39⟩) (c39 : PySem.W.codeIn K cd39 "_law_is_missed_right" = true) (k39 : PySem.W.keepIn K (.ref f39) = true)
    (a40 : PySem.W.nsIn K mainGlobals "with_clause" = some (some (.ref f40))) (l40 : K.lookup f40 = some ⟨oc40, od40, .func (PySem.W.fnOf "with_clause" "with_clause" (defArgs s_with_clause) (defBody s_with_clause) (defScope s_with_clause) .none kV40 dc40 pm40 an40 cd40 ct40), sl40⟩) (c40 : PySem.W.codeIn K cd40 "with_clause" = true) (k40 : PySem.W.keepIn K (.ref f40) = true)
    (a41 : PySem.W.nsIn K mainGlobals "clauses_of" = some (some (.ref f41))) (l41 : K.lookup f41 = some ⟨oc41, od41, .func (PySem.W.fnOf "clauses_of" "clauses_of" (defArgs s_clauses_of) (defBody s_clauses_of) (defScope s_clauses_of) .none kV41 dc41 pm41 an41 cd41 ct41), sl41⟩) (c41 : PySem.W.codeIn K cd41 "clauses_of" = true) (k41 : PySem.W.keepIn K (.ref f41) = true)
    (a42 : PySem.W.nsIn K mainGlobals "without_clause" = some (some (.ref f42))) (l42 : K.lookup f42 = some ⟨oc42, od42, .func (PySem.W.fnOf "without_clause" "without_clause" (defArgs s_without_clause) (defBody s_without_clause) (defScope s_without_clause) .none kV42 dc42 pm42 an42 cd42 ct42), sl42⟩) (c42 : PySem.W.codeIn K cd42 "without_clause" = true) (k42 : PySem.W.keepIn K (.ref f42) = true)
    (a43 : PySem.W.nsIn K mainGlobals "_law_are_parts_right" = some (some (.ref f43))) (l43 : K.lookup f43 = some ⟨oc43, od43, .func (PySem.W.fnOf "_law_are_parts_right" "_law_are_parts_right" (defArgs s_law_are_parts_right) (defBody s_law_are_parts_right) (defScope s_law_are_parts_right) .none kV43 dc43 pm43 an43 cd43 ct43), sl43⟩) (c43 : PySem.W.codeIn K cd43 "_law_are_parts_right" = true) (k43 : PySem.W.keepIn K (.ref f43) = true)
    (a44 : PySem.W.nsIn K mainGlobals "law" = some (some (.ref f44))) (l44 : K.lookup f44 = some ⟨oc44, od44, .func (PySem.W.fnOf "law" "law" (defArgs s_law) (defBody s_law) (defScope s_law) .none kV44 dc44 pm44 an44 (.ref lc) ct44), sl44⟩) (c44 : PySem.W.codeIn K (.ref lc) "law" = true) (k44 : PySem.W.keepIn K (.ref f44) = true)
    (a45 : PySem.W.nsIn K mainGlobals "_law_heard" = some (some (.ref f45))) (l45 : K.lookup f45 = some ⟨oc45, od45, .func (PySem.W.fnOf "_law_heard" "_law_heard" (defArgs (topS 49)) (defBody (topS 49)) (defScope (topS 49)) .none kV45 dc45 pm45 an45 cd45 ct45), sl45⟩) (c45 : PySem.W.codeIn K cd45 "_law_heard" = true) (k45 : PySem.W.keepIn K (.ref f45) = true)
    (l46 : K.lookup f46 = some ⟨oc46, od46, .func (PySem.W.fnOf "__init__" "TooMany.__init__" (defArgs s_iniT) (defBody s_iniT) (defScope s_iniT) .none kV46 dc46 pm46 an46 cd46 ct46), sl46⟩) (c46 : PySem.W.codeIn K cd46 "TooMany.__init__" = true) (k46 : PySem.W.keepIn K (.ref f46) = true)
    (z1 : PySem.W.nsIn K mainGlobals "sum" = some none)
    (z2 : PySem.W.nsIn K mainGlobals "enumerate" = some none)
    (z3 : PySem.W.nsIn K mainGlobals "range" = some none)
    (z4 : PySem.W.nsIn K mainGlobals "tuple" = some none)
    (z5 : PySem.W.nsIn K mainGlobals "max" = some none)
    (z6 : PySem.W.nsIn K mainGlobals "abs" = some none)
    (z7 : PySem.W.nsIn K mainGlobals "int" = some none)
    (z8 : PySem.W.nsIn K mainGlobals "len" = some none)
    (z9 : PySem.W.nsIn K mainGlobals "repr" = some none)
    (z10 : PySem.W.nsIn K mainGlobals "sorted" = some none)
    (z11 : PySem.W.nsIn K mainGlobals "list" = some none)
    (z12 : PySem.W.nsIn K mainGlobals "min" = some none)
    (z13 : PySem.W.nsIn K mainGlobals "set" = some none)
    (gM : PySem.W.nsIn K mainGlobals "MOST_UNKNOWNS" = some (some (.int 12 tc)))
    (xT : K.lookup CT = some (excClassObj nm q CT N bs [.ref S, .type "ValueError", .type "Exception", .type "BaseException", .type "object"] true sn sub ab col dd m0 m1 m2 m3 m5 "ValueError.__new__"))
    (saT : PySem.W.findIn K (.ref CT) "__setattr__" = some (some (.builtin "object.__setattr__")))
    (iT : PySem.W.findIn K (.ref CT) "__init__" = some (some (.ref f46)))
    (tT : PySem.W.typeIn K (.ref f46) = some (.type "function"))
    (kT : PySem.W.keepIn K (.ref CT) = true)
    (gW : PySem.W.nsIn K mainGlobals "Wrong" = some (some (.ref CW)))
    (gaW : PySem.W.findIn K (.ref CW) "__getattribute__" = some (some (.builtin "BaseException.__getattribute__")))
    (ggW : PySem.W.findIn K (.ref CW) "__getattr__" = some none)
    (noW : PySem.W.findIn K (.ref CW) "place" = some none)
    (exW : PySem.W.subIn K (.ref CW) (.type "BaseException") = some true)
    (tyW : PySem.W.typeIn K (.ref CW) = some (.type "type"))
    (hdW : PySem.W.hasDictIn K CW = true)
    (icW : PySem.W.isClsIn K CW = true)
    (meW : PySem.W.subIn K (.ref CW) (.ref CW) = some true)
    (gN : PySem.W.nsIn K mainGlobals "NoText" = some (some (.ref CN)))
    (gaN : PySem.W.findIn K (.ref CN) "__getattribute__" = some (some (.builtin "BaseException.__getattribute__")))
    (ggN : PySem.W.findIn K (.ref CN) "__getattr__" = some none)
    (noN : PySem.W.findIn K (.ref CN) "line" = some none)
    (exN : PySem.W.subIn K (.ref CN) (.type "BaseException") = some true)
    (tyN : PySem.W.typeIn K (.ref CN) = some (.type "type"))
    (hdN : PySem.W.hasDictIn K CN = true)
    (icN : PySem.W.isClsIn K CN = true)
    (meN : PySem.W.subIn K (.ref CN) (.ref CN) = some true)
    (gT : PySem.W.nsIn K mainGlobals "TooMany" = some (some (.ref CT)))
    (gaT : PySem.W.findIn K (.ref CT) "__getattribute__" = some (some (.builtin "BaseException.__getattribute__")))
    (ggT : PySem.W.findIn K (.ref CT) "__getattr__" = some none)
    (noT : PySem.W.findIn K (.ref CT) "most" = some none)
    (exT : PySem.W.subIn K (.ref CT) (.type "BaseException") = some true)
    (tyT : PySem.W.typeIn K (.ref CT) = some (.type "type"))
    (hdT : PySem.W.hasDictIn K CT = true)
    (icT : PySem.W.isClsIn K CT = true)
    (meT : PySem.W.subIn K (.ref CT) (.ref CT) = some true)
    (nw : PySem.W.subIn K (.ref CN) (.ref CW) = some false)
    (tw : PySem.W.subIn K (.ref CT) (.ref CW) = some false)
    (tn : PySem.W.subIn K (.ref CT) (.ref CN) = some false) :
    ∃ fd : FuncData, (∀ (s : Shared) (v : Value), BindsTo s fd ⟨[v], []⟩ [("script", v)]) ∧ ∀ base : Heap, K.In base → base.Ns mainGlobals mg → TabB base mg lc lp → FnG l.prog w K mg base 8 fa fd ["script"] (sp_law03 lp K) := by
  have e := hfa.symm.trans (PySem.W.mg_of X G a44)
  cases e
  have F1 := fun_mk (st := s_law_bag) l1 c1 k1
  have b1 := F1.binds (ps := ["script"]) fun _ _ _ _ _ _ us hl => match us, hl with | [_], _ => rfl
  have F2 := fun_mk (st := s_law_take) l2 c2 k2
  have b2 := F2.binds (ps := ["bag", "many"]) fun _ _ _ _ _ _ us hl => match us, hl with | [_, _], _ => rfl
  have F3 := fun_mk (st := s_law_some) l3 c3 k3
  have b3 := F3.binds (ps := ["bag", "things"]) fun _ _ _ _ _ _ us hl => match us, hl with | [_, _], _ => rfl
  have F4 := fun_mk (st := s_law_row) l4 c4 k4
  have b4 := F4.binds (ps := ["mask"]) fun _ _ _ _ _ _ us hl => match us, hl with | [_], _ => rfl
  have F5 := fun_mk (st := s_law_any_row) l5 c5 k5
  have b5 := F5.binds (ps := ["bag", "many"]) fun _ _ _ _ _ _ us hl => match us, hl with | [_, _], _ => rfl
  have F6 := fun_mk (st := s_law_any_clause) l6 c6 k6
  have b6 := F6.binds (ps := ["bag", "many", "most"]) fun _ _ _ _ _ _ us hl => match us, hl with | [_, _, _], _ => rfl
  have F7 := fun_mk (st := s_law_any_book) l7 c7 k7
  have b7 := F7.binds (ps := ["bag", "many", "most"]) fun _ _ _ _ _ _ us hl => match us, hl with | [_, _, _], _ => rfl
  have F8 := fun_mk (st := s_law_worth) l8 c8 k8
  have b8 := F8.binds (ps := ["row", "bits"]) fun _ _ _ _ _ _ us hl => match us, hl with | [_, _], _ => rfl
  have F9 := fun_mk (st := s_law_planted_book) l9 c9 k9
  have b9 := F9.binds (ps := ["bag", "many", "most"]) fun _ _ _ _ _ _ us hl => match us, hl with | [_, _, _], _ => rfl
  have F10 := fun_mk (st := s_law_mask) l10 c10 k10
  have b10 := F10.binds (ps := ["row"]) fun _ _ _ _ _ _ us hl => match us, hl with | [_], _ => rfl
  have F11 := fun_mk (st := s_law_mixed) l11 c11 k11
  have b11 := F11.binds (ps := ["bag", "things"]) fun _ _ _ _ _ _ us hl => match us, hl with | [_, _], _ => rfl
  have F12 := fun_mk (st := s_law_chain_book) l12 c12 k12
  have b12 := F12.binds (ps := ["bag", "many"]) fun _ _ _ _ _ _ us hl => match us, hl with | [_, _], _ => rfl
  have F13 := fun_mk (st := s_law_beside_book) l13 c13 k13
  have b13 := F13.binds (ps := ["bag", "one", "other"]) fun _ _ _ _ _ _ us hl => match us, hl with | [_, _, _], _ => rfl
  have F14 := fun_mk (st := s_law_flat_of) l14 c14 k14
  have b14 := F14.binds (ps := ["lines"]) fun _ _ _ _ _ _ us hl => match us, hl with | [_], _ => rfl
  have F15 := fun_mk (st := s_law_halves) l15 c15 k15
  have b15 := F15.binds (ps := ["flat", "row"]) fun _ _ _ _ _ _ us hl => match us, hl with | [_, _], _ => rfl
  have F16 := fun_mk (st := s_law_told) l16 c16 k16
  have b16 := F16.binds (ps := ["flat", "row"]) fun _ _ _ _ _ _ us hl => match us, hl with | [_, _], _ => rfl
  have F17 := fun_mk (st := s_law_new_row) l17 c17 k17
  have b17 := F17.binds (ps := ["bag", "many", "flat"]) fun _ _ _ _ _ _ us hl => match us, hl with | [_, _, _], _ => rfl
  have F18 := fun_mk (st := s_law_cut_up) l18 c18 k18
  have b18 := F18.binds (ps := ["bag", "many", "most"]) fun _ _ _ _ _ _ us hl => match us, hl with | [_, _, _], _ => rfl
  have F19 := fun_mk (st := s_law_wider) l19 c19 k19
  have b19 := F19.binds (ps := ["bag", "flat"]) fun _ _ _ _ _ _ us hl => match us, hl with | [_, _], _ => rfl
  have F20 := fun_mk (st := s_law_spoken) l20 c20 k20
  have b20 := F20.binds (ps := ["bag", "flat"]) fun _ _ _ _ _ _ us hl => match us, hl with | [_, _], _ => rfl
  have F21 := fun_mk (st := s_law_cover_book) l21 c21 k21
  have b21 := F21.binds (ps := ["bag", "many", "most"]) fun _ _ _ _ _ _ us hl => match us, hl with | [_, _, _], _ => rfl
  have F22 := fun_mk (st := s_law_book) l22 c22 k22
  have b22 := F22.binds (ps := ["bag", "many", "most"]) fun _ _ _ _ _ _ us hl => match us, hl with | [_, _, _], _ => rfl
  have F23 := fun_mk (st := s_law_room) l23 c23 k23
  have b23 := F23.binds (ps := ["many"]) fun _ _ _ _ _ _ us hl => match us, hl with | [_], _ => rfl
  have F24 := fun_mk (st := s_law_bits) l24 c24 k24
  have b24 := F24.binds (ps := ["room", "place"]) fun _ _ _ _ _ _ us hl => match us, hl with | [_, _], _ => rfl
  have F25 := fun_mk (st := s_law_least) l25 c25 k25
  have b25 := F25.binds (ps := ["room", "some"]) fun _ _ _ _ _ _ us hl => match us, hl with | [_, _], _ => rfl
  have F26 := fun_mk (st := s_law_listed) l26 c26 k26
  have b26 := F26.binds (ps := ["room", "some"]) fun _ _ _ _ _ _ us hl => match us, hl with | [_, _], _ => rfl
  have F27 := fun_mk (st := s_law_held) l27 c27 k27
  have b27 := F27.binds (ps := ["room", "line"]) fun _ _ _ _ _ _ us hl => match us, hl with | [_, _], _ => rfl
  have F28 := fun_mk (st := s_law_kept) l28 c28 k28
  have b28 := F28.binds (ps := ["room", "clause"]) fun _ _ _ _ _ _ us hl => match us, hl with | [_, _], _ => rfl
  have F29 := fun_mk (st := s_law_all_kept) l29 c29 k29
  have b29 := F29.binds (ps := ["room", "clauses"]) fun _ _ _ _ _ _ us hl => match us, hl with | [_, _], _ => rfl
  have F30 := fun_mk (st := s_last_unknown) l30 c30 k30
  have b30 := F30.binds (ps := ["clause"]) fun _ _ _ _ _ _ us hl => match us, hl with | [_], _ => rfl
  have F31 := fun_mk (st := s_worth_of) l31 c31 k31
  have b31 := F31.binds (ps := ["row", "bits"]) fun _ _ _ _ _ _ us hl => match us, hl with | [_, _], _ => rfl
  have F32 := fun_mk (st := s_holds) l32 c32 k32
  have b32 := F32.binds (ps := ["line", "bits"]) fun _ _ _ _ _ _ us hl => match us, hl with | [_, _], _ => rfl
  have F33 := fun_mk (st := s_keeps) l33 c33 k33
  have b33 := F33.binds (ps := ["clause", "bits"]) fun _ _ _ _ _ _ us hl => match us, hl with | [_, _], _ => rfl
  have F34 := fun_mk (st := s_keeps_all) l34 c34 k34
  have b34 := F34.binds (ps := ["clauses", "bits"]) fun _ _ _ _ _ _ us hl => match us, hl with | [_, _], _ => rfl
  have F35 := fun_mk (st := s_models_of) l35 c35 k35
  have b35 := F35.binds (ps := ["book"]) fun _ _ _ _ _ _ us hl => match us, hl with | [_], _ => rfl
  have F36 := fun_mk (st := s_law_alike) l36 c36 k36
  have b36 := F36.binds (ps := ["found", "due"]) fun _ _ _ _ _ _ us hl => match us, hl with | [_, _], _ => rfl
  have F37 := fun_mk (st := s_law_are_models_right) l37 c37 k37
  have b37 := F37.binds (ps := ["book"]) fun _ _ _ _ _ _ us hl => match us, hl with | [_], _ => rfl
  have F38 := fun_mk (st := s_missed) l38 c38 k38
  have b38 := F38.binds (ps := ["book", "bits"]) fun _ _ _ _ _ _ us hl => match us, hl with | [_, _], _ => rfl
  have F39 := fun_mk (st := s_law_is_missed_right) l39 c39 k39
  have b39 := F39.binds (ps := ["bag", "book"]) fun _ _ _ _ _ _ us hl => match us, hl with | [_, _], _ => rfl
  have F40 := fun_mk (st := s_with_clause) l40 c40 k40
  have b40 := F40.binds (ps := ["book", "clause"]) fun _ _ _ _ _ _ us hl => match us, hl with | [_, _], _ => rfl
  have F41 := fun_mk (st := s_clauses_of) l41 c41 k41
  have b41 := F41.binds (ps := ["book", "lot"]) fun _ _ _ _ _ _ us hl => match us, hl with | [_, _], _ => rfl
  have F42 := fun_mk (st := s_without_clause) l42 c42 k42
  have b42 := F42.binds (ps := ["book", "index"]) fun _ _ _ _ _ _ us hl => match us, hl with | [_, _], _ => rfl
  have F43 := fun_mk (st := s_law_are_parts_right) l43 c43 k43
  have b43 := F43.binds (ps := ["bag", "book"]) fun _ _ _ _ _ _ us hl => match us, hl with | [_, _], _ => rfl
  have F45 := fun_mk (st := topS 49) l45 c45 k45
  have b45 := F45.binds (ps := ["act"]) fun _ _ _ _ _ _ us hl => match us, hl with | [_], _ => rfl
  have F46 := fun_mk (st := s_iniT) l46 c46 k46
  have b46 := F46.binds (ps := ["self", "most"]) fun _ _ _ _ _ _ us hl => match us, hl with | [_, _], _ => rfl
  have T : Txt mg := ⟨PySem.W.mg_none_of X G z1, PySem.W.mg_none_of X G z2, PySem.W.mg_none_of X G z3, PySem.W.mg_none_of X G z4, PySem.W.mg_none_of X G z5, PySem.W.mg_none_of X G z6, PySem.W.mg_none_of X G z7, PySem.W.mg_none_of X G z8, PySem.W.mg_none_of X G z9, PySem.W.mg_none_of X G z10, PySem.W.mg_none_of X G z11, PySem.W.mg_none_of X G z12, PySem.W.mg_none_of X G z13, ⟨_, PySem.W.mg_of X G gM⟩⟩
  have TE : ErrC K mg "TooMany" "most" CT f46 := ⟨⟨⟨nm, q, N, bs, _, sn, sub, ab, col, dd, m0, m1, m2, m3, m5, xT, by rfl⟩, saT, exT, tyT, kT⟩, PySem.W.mg_of X G gT, iT, tT, ⟨gaT, ggT, exT, hdT⟩, noT⟩
  have TH : Hear3 K mg CW CN CT := ⟨⟨PySem.W.mg_of X G gW, ⟨gaW, ggW, exW, hdW⟩, noW, exm_of exW icW tyW meW⟩, ⟨PySem.W.mg_of X G gN, ⟨gaN, ggN, exN, hdN⟩, noN, exm_of exN icN tyN meN⟩, ⟨PySem.W.mg_of X G gT, ⟨gaT, ggT, exT, hdT⟩, noT, exm_of exT icT tyT meT⟩, exm_of exW icW tyW nw, exm_of exW icW tyW tw, exm_of exN icN tyN tn⟩
  refine ⟨PySem.W.fnOf "law" "law" (defArgs s_law) (defBody s_law) (defScope s_law) .none kV44 dc44 pm44 an44 (.ref lc) ct44, fun s v => .of_eq rfl, fun base _ _ TB => ?_⟩
  have y1 : CalleeOf l.prog w K mg base 1 "_law_bag" ["script"] (sp_law_bag K) := ⟨f1, _, ok_law_bag F1 T , PySem.W.mg_of X G a1, k1, b1⟩
  have y2 : CalleeOf l.prog w K mg base 1 "_law_take" ["bag", "many"] (sp_law_take K) := ⟨f2, _, ok_law_take F2 T , PySem.W.mg_of X G a2, k2, b2⟩
  have y3 : CalleeOf l.prog w K mg base 2 "_law_some" ["bag", "things"] (sp_law_some K) := ⟨f3, _, ok_law_some F3 T y2, PySem.W.mg_of X G a3, k3, b3⟩
  have y4 : CalleeOf l.prog w K mg base 1 "_law_row" ["mask"] (sp_law_row K) := ⟨f4, _, ok_law_row F4 T , PySem.W.mg_of X G a4, k4, b4⟩
  have y5 : CalleeOf l.prog w K mg base 3 "_law_any_row" ["bag", "many"] (sp_law_any_row K) := ⟨f5, _, ok_law_any_row F5 T y3 y2 y4, PySem.W.mg_of X G a5, k5, b5⟩
  have y6 : CalleeOf l.prog w K mg base 4 "_law_any_clause" ["bag", "many", "most"] (sp_law_any_clause K) := ⟨f6, _, ok_law_any_clause F6 T y2 y5, PySem.W.mg_of X G a6, k6, b6⟩
  have y7 : CalleeOf l.prog w K mg base 5 "_law_any_book" ["bag", "many", "most"] (sp_law_any_bookZ K) := ⟨f7, _, ok_law_any_book F7 T y2 y6 y3, PySem.W.mg_of X G a7, k7, b7⟩
  have y8 : CalleeOf l.prog w K mg base 1 "_law_worth" ["row", "bits"] (sp_law_worthS K) := ⟨f8, _, ok_law_worth F8 T , PySem.W.mg_of X G a8, k8, b8⟩
  have y9 : CalleeOf l.prog w K mg base 5 "_law_planted_book" ["bag", "many", "most"] (sp_law_planted_bookZ K) := ⟨f9, _, ok_law_planted_book F9 T y2 y5 y6 y3 y8, PySem.W.mg_of X G a9, k9, b9⟩
  have y10 : CalleeOf l.prog w K mg base 1 "_law_mask" ["row"] (sp_law_mask K) := ⟨f10, _, ok_law_mask F10 T , PySem.W.mg_of X G a10, k10, b10⟩
  have y11 : CalleeOf l.prog w K mg base 2 "_law_mixed" ["bag", "things"] (sp_law_mixed K) := ⟨f11, _, ok_law_mixed F11 T y2, PySem.W.mg_of X G a11, k11, b11⟩
  have y12 : CalleeOf l.prog w K mg base 5 "_law_chain_book" ["bag", "many"] (sp_law_chain_bookZ K) := ⟨f12, _, ok_law_chain_book F12 T y2 y5 y10 (callee_mono worthS_mono y8) y4 y6 y11, PySem.W.mg_of X G a12, k12, b12⟩
  have y13 : CalleeOf l.prog w K mg base 3 "_law_beside_book" ["bag", "one", "other"] (sp_law_beside_bookZ K) := ⟨f13, _, ok_law_beside_book F13 T y11, PySem.W.mg_of X G a13, k13, b13⟩
  have y14 : CalleeOf l.prog w K mg base 2 "_law_flat_of" ["lines"] (sp_flat_of K) := ⟨f14, _, ok_law_flat_of F14 T y10 y4, PySem.W.mg_of X G a14, k14, b14⟩
  have y15 : CalleeOf l.prog w K mg base 3 "_law_halves" ["flat", "row"] (sp_law_halves K) := ⟨f15, _, ok_law_halves F15 T y14, PySem.W.mg_of X G a15, k15, b15⟩
  have y16 : CalleeOf l.prog w K mg base 2 "_law_told" ["flat", "row"] (sp_law_told K) := ⟨f16, _, ok_law_told F16 T y10, PySem.W.mg_of X G a16, k16, b16⟩
  have y17 : CalleeOf l.prog w K mg base 4 "_law_new_row" ["bag", "many", "flat"] (sp_law_new_row K) := ⟨f17, _, ok_law_new_row F17 T y5 y16 y3, PySem.W.mg_of X G a17, k17, b17⟩
  have y18 : CalleeOf l.prog w K mg base 5 "_law_cut_up" ["bag", "many", "most"] (sp_law_cut_up K) := ⟨f18, _, ok_law_cut_up F18 T y2 y15 y17, PySem.W.mg_of X G a18, k18, b18⟩
  have y19 : CalleeOf l.prog w K mg base 2 "_law_wider" ["bag", "flat"] (sp_law_wider K) := ⟨f19, _, ok_law_wider F19 T y2, PySem.W.mg_of X G a19, k19, b19⟩
  have y20 : CalleeOf l.prog w K mg base 3 "_law_spoken" ["bag", "flat"] (sp_law_spokenZ K) := ⟨f20, _, ok_law_spoken F20 T y10 y2 y11 y4, PySem.W.mg_of X G a20, k20, b20⟩
  have y21 : CalleeOf l.prog w K mg base 6 "_law_cover_book" ["bag", "many", "most"] (sp_law_cover_bookZ K) := ⟨f21, _, ok_law_cover_book F21 T y18 y2 y19 y20 y6 y3 y11, PySem.W.mg_of X G a21, k21, b21⟩
  have y22 : CalleeOf l.prog w K mg base 7 "_law_book" ["bag", "many", "most"] (sp_law_bookZ K) := ⟨f22, _, ok_law_book F22 T y2 y7 y9 y12 y13 y21, PySem.W.mg_of X G a22, k22, b22⟩
  have y23 : CalleeOf l.prog w K mg base 1 "_law_room" ["many"] (sp_law_roomZ K) := ⟨f23, _, ok_law_room F23 T , PySem.W.mg_of X G a23, k23, b23⟩
  have y24 : CalleeOf l.prog w K mg base 1 "_law_bits" ["room", "place"] (sp_law_bitsZ K) := ⟨f24, _, ok_law_bits F24 T , PySem.W.mg_of X G a24, k24, b24⟩
  have y25 : CalleeOf l.prog w K mg base 2 "_law_least" ["room", "some"] (sp_law_leastZ K) := ⟨f25, _, ok_law_least F25 T y24, PySem.W.mg_of X G a25, k25, b25⟩
  have y26 : CalleeOf l.prog w K mg base 3 "_law_listed" ["room", "some"] (sp_law_listedZ K) := ⟨f26, _, ok_law_listed F26 T y25, PySem.W.mg_of X G a26, k26, b26⟩
  have y27 : CalleeOf l.prog w K mg base 1 "_law_held" ["room", "line"] (sp_law_heldZ K) := ⟨f27, _, ok_law_held F27 T , PySem.W.mg_of X G a27, k27, b27⟩
  have y28 : CalleeOf l.prog w K mg base 2 "_law_kept" ["room", "clause"] (sp_law_keptZ K) := ⟨f28, _, ok_law_kept F28 T y27, PySem.W.mg_of X G a28, k28, b28⟩
  have y29 : CalleeOf l.prog w K mg base 3 "_law_all_kept" ["room", "clauses"] (sp_law_all_keptZ K) := ⟨f29, _, ok_law_all_kept F29 T y28, PySem.W.mg_of X G a29, k29, b29⟩
  have y30 : CalleeOf l.prog w K mg base 1 "_last_unknown" ["clause"] (sp_last_unknown K) := ⟨f30, _, ok_last_unknown F30 T , PySem.W.mg_of X G a30, k30, b30⟩
  have y31 : CalleeOf l.prog w K mg base 1 "worth_of" ["row", "bits"] (sp_worth_of K) := ⟨f31, _, ok_worth_of F31 T , PySem.W.mg_of X G a31, k31, b31⟩
  have y32 : CalleeOf l.prog w K mg base 2 "holds" ["line", "bits"] (sp_holds K) := ⟨f32, _, ok_holds F32 T y31, PySem.W.mg_of X G a32, k32, b32⟩
  have y33 : CalleeOf l.prog w K mg base 3 "keeps" ["clause", "bits"] (sp_keeps K) := ⟨f33, _, ok_keeps F33 T y32, PySem.W.mg_of X G a33, k33, b33⟩
  have y34 : CalleeOf l.prog w K mg base 4 "_keeps_all" ["clauses", "bits"] (sp_keeps_all K) := ⟨f34, _, ok_keeps_all F34 T y33, PySem.W.mg_of X G a34, k34, b34⟩
  have y35 : CalleeOf l.prog w K mg base 5 "models_of" ["book"] (sp_models_of K) := ⟨f35, _, ok_models_of F35 T y30 y34, PySem.W.mg_of X G a35, k35, b35⟩
  have y36 : CalleeOf l.prog w K mg base 1 "_law_alike" ["found", "due"] (sp_law_alike K) := ⟨f36, _, ok_law_alike F36 T , PySem.W.mg_of X G a36, k36, b36⟩
  have y37 : CalleeOf l.prog w K mg base 6 "_law_are_models_right" ["book"] (sp_law_are_models_right K) := ⟨f37, _, ok_law_are_models_right F37 T y23 y26 y29 y35 y36, PySem.W.mg_of X G a37, k37, b37⟩
  have y38 : CalleeOf l.prog w K mg base 4 "missed" ["book", "bits"] (sp_missed K) := ⟨f38, _, ok_missed F38 T y33, PySem.W.mg_of X G a38, k38, b38⟩
  have y39 : CalleeOf l.prog w K mg base 5 "_law_is_missed_right" ["bag", "book"] (sp_law_is_missed_right K) := ⟨f39, _, ok_law_is_missed_right F39 T y2 y8 y36 y32 y33 y38, PySem.W.mg_of X G a39, k39, b39⟩
  have y40 : CalleeOf l.prog w K mg base 1 "with_clause" ["book", "clause"] (sp_with_clause K) := ⟨f40, _, ok_with_clause F40 T , PySem.W.mg_of X G a40, k40, b40⟩
  have y41 : CalleeOf l.prog w K mg base 1 "clauses_of" ["book", "lot"] (sp_clauses_of K) := ⟨f41, _, ok_clauses_of F41 T , PySem.W.mg_of X G a41, k41, b41⟩
  have y42 : CalleeOf l.prog w K mg base 1 "without_clause" ["book", "index"] (sp_without_clause K) := ⟨f42, _, ok_without_clause F42 T , PySem.W.mg_of X G a42, k42, b42⟩
  have y43 : CalleeOf l.prog w K mg base 5 "_law_are_parts_right" ["bag", "book"] (sp_law_are_parts_right K) := ⟨f43, _, ok_law_are_parts_right F43 T y2 y6 y40 y41 y42 y36, PySem.W.mg_of X G a43, k43, b43⟩
  have cM : CalleeR l.prog w K mg base 3 "models_of" ["book"] (sp_models13 K CT) := ⟨f35, _, ok_models13 F35 T TE F46 b46, PySem.W.mg_of X G a35, k35, b35⟩
  exact ok_law l44 c44 T l45 c45 (PySem.W.mg_of X G a45) k45 b45 TH TB cM y1 y22 y37 y39 y43 y2 y3 y36
end Es
open PySem PySem.W PyProof.Rows
set_option maxHeartbeats 0 in
theorem PySem.Challenge.cw_eithersums_k03_books_and_their_models_holds : PySem.Challenge.rw_eithersums_k03_books_and_their_models.Holds := by
  w_on; o_law; k_head; (case hw => w_witness2)
  k_fill
  refine' Es.walkT1 (c := _) (l := PySem.Challenge.rw_eithersums_k03_books_and_their_models) (n := 63) (k := 8) (x := "script") (sp := Es.sp_law03) rfl (by decide) rfl ⟨rfl, by decide, by decide⟩ (fun w h Y => km_in_of Y) (fun w h Y => km_tabs_of Y _ List.mem_cons_self) ?hN ?hF ?hC (fun _ _ a ns hl hS hT => ⟨a, ns, rfl, hS, hl, hT, fun _ => rfl⟩)
  case hF =>
    intro w mg fa h KX G hmg
    refine' Es.all_mk KX G hmg ?a1 ?l1 ?c1 ?k1 ?a2 ?l2 ?c2 ?k2 ?a3 ?l3 ?c3 ?k3 ?a4 ?l4 ?c4 ?k4 ?a5 ?l5 ?c5 ?k5 ?a6 ?l6 ?c6 ?k6 ?a7 ?l7 ?c7 ?k7 ?a8 ?l8 ?c8 ?k8 ?a9 ?l9 ?c9 ?k9 ?a10 ?l10 ?c10 ?k10 ?a11 ?l11 ?c11 ?k11 ?a12 ?l12 ?c12 ?k12 ?a13 ?l13 ?c13 ?k13 ?a14 ?l14 ?c14 ?k14 ?a15 ?l15 ?c15 ?k15 ?a16 ?l16 ?c16 ?k16 ?a17 ?l17 ?c17 ?k17 ?a18 ?l18 ?c18 ?k18 ?a19 ?l19 ?c19 ?k19 ?a20 ?l20 ?c20 ?k20 ?a21 ?l21 ?c21 ?k21 ?a22 ?l22 ?c22 ?k22 ?a23 ?l23 ?c23 ?k23 ?a24 ?l24 ?c24 ?k24 ?a25 ?l25 ?c25 ?k25 ?a26 ?l26 ?c26 ?k26 ?a27 ?l27 ?c27 ?k27 ?a28 ?l28 ?c28 ?k28 ?a29 ?l29 ?c29 ?k29 ?a30 ?l30 ?c30 ?k30 ?a31 ?l31 ?c31 ?k31 ?a32 ?l32 ?c32 ?k32 ?a33 ?l33 ?c33 ?k33 ?a34 ?l34 ?c34 ?k34 ?a35 ?l35 ?c35 ?k35 ?a36 ?l36 ?c36 ?k36 ?a37 ?l37 ?c37 ?k37 ?a38 ?l38 ?c38 ?k38 ?a39 ?l39 ?c39 ?k39 ?a40 ?l40 ?c40 ?k40 ?a41 ?l41 ?c41 ?k41 ?a42 ?l42 ?c42 ?k42 ?a43 ?l43 ?c43 ?k43 ?a44 ?l44 ?c44 ?k44 ?a45 ?l45 ?c45 ?k45 ?l46 ?c46 ?k46 ?z1 ?z2 ?z3 ?z4 ?z5 ?z6 ?z7 ?z8 ?z9 ?z10 ?z11 ?z12 ?z13 ?gM ?xT ?saT ?iT ?tT ?kT ?gW ?gaW ?ggW ?noW ?exW ?tyW ?hdW ?icW ?meW ?gN ?gaN ?ggN ?noN ?exN ?tyN ?hdN ?icN ?meN ?gT ?gaT ?ggT ?noT ?exT ?tyT ?hdT ?icT ?meT ?nw ?tw ?tn
    (case a1 => first | k_is | rfl)
    (case a2 => first | k_is | rfl)
    (case a3 => first | k_is | rfl)
    (case a4 => first | k_is | rfl)
    (case a5 => first | k_is | rfl)
    (case a6 => first | k_is | rfl)
    (case a7 => first | k_is | rfl)
    (case a8 => first | k_is | rfl)
    (case a9 => first | k_is | rfl)
    (case a10 => first | k_is | rfl)
    (case a11 => first | k_is | rfl)
    (case a12 => first | k_is | rfl)
    (case a13 => first | k_is | rfl)
    (case a14 => first | k_is | rfl)
    (case a15 => first | k_is | rfl)
    (case a16 => first | k_is | rfl)
    (case a17 => first | k_is | rfl)
    (case a18 => first | k_is | rfl)
    (case a19 => first | k_is | rfl)
    (case a20 => first | k_is | rfl)
    (case a21 => first | k_is | rfl)
    (case a22 => first | k_is | rfl)
    (case a23 => first | k_is | rfl)
    (case a24 => first | k_is | rfl)
    (case a25 => first | k_is | rfl)
    (case a26 => first | k_is | rfl)
    (case a27 => first | k_is | rfl)
    (case a28 => first | k_is | rfl)
    (case a29 => first | k_is | rfl)
    (case a30 => first | k_is | rfl)
    (case a31 => first | k_is | rfl)
    (case a32 => first | k_is | rfl)
    (case a33 => first | k_is | rfl)
    (case a34 => first | k_is | rfl)
    (case a35 => first | k_is | rfl)
    (case a36 => first | k_is | rfl)
    (case a37 => first | k_is | rfl)
    (case a38 => first | k_is | rfl)
    (case a39 => first | k_is | rfl)
    (case a40 => first | k_is | rfl)
    (case a41 => first | k_is | rfl)
    (case a42 => first | k_is | rfl)
    (case a43 => first | k_is | rfl)
    (case a44 => first | k_is | rfl)
    (case a45 => first | k_is | rfl)
    (case gW => first | k_is | rfl)
    (case gN => first | k_is | rfl)
    (case gT => first | k_is | rfl)
    (case iT => first | k_is | rfl)
    (case xT => first | k_is | rfl)
    (case l1 => first | k_is | rfl)
    (case c1 => first | k_is | rfl)
    (case k1 => first | k_is | rfl)
    (case l2 => first | k_is | rfl)
    (case c2 => first | k_is | rfl)
    (case k2 => first | k_is | rfl)
    (case l3 => first | k_is | rfl)
    (case c3 => first | k_is | rfl)
    (case k3 => first | k_is | rfl)
    (case l4 => first | k_is | rfl)
    (case c4 => first | k_is | rfl)
    (case k4 => first | k_is | rfl)
    (case l5 => first | k_is | rfl)
    (case c5 => first | k_is | rfl)
    (case k5 => first | k_is | rfl)
    (case l6 => first | k_is | rfl)
    (case c6 => first | k_is | rfl)
    (case k6 => first | k_is | rfl)
    (case l7 => first | k_is | rfl)
    (case c7 => first | k_is | rfl)
    (case k7 => first | k_is | rfl)
    (case l8 => first | k_is | rfl)
    (case c8 => first | k_is | rfl)
    (case k8 => first | k_is | rfl)
    (case l9 => first | k_is | rfl)
    (case c9 => first | k_is | rfl)
    (case k9 => first | k_is | rfl)
    (case l10 => first | k_is | rfl)
    (case c10 => first | k_is | rfl)
    (case k10 => first | k_is | rfl)
    (case l11 => first | k_is | rfl)
    (case c11 => first | k_is | rfl)
    (case k11 => first | k_is | rfl)
    (case l12 => first | k_is | rfl)
    (case c12 => first | k_is | rfl)
    (case k12 => first | k_is | rfl)
    (case l13 => first | k_is | rfl)
    (case c13 => first | k_is | rfl)
    (case k13 => first | k_is | rfl)
    (case l14 => first | k_is | rfl)
    (case c14 => first | k_is | rfl)
    (case k14 => first | k_is | rfl)
    (case l15 => first | k_is | rfl)
    (case c15 => first | k_is | rfl)
    (case k15 => first | k_is | rfl)
    (case l16 => first | k_is | rfl)
    (case c16 => first | k_is | rfl)
    (case k16 => first | k_is | rfl)
    (case l17 => first | k_is | rfl)
    (case c17 => first | k_is | rfl)
    (case k17 => first | k_is | rfl)
    (case l18 => first | k_is | rfl)
    (case c18 => first | k_is | rfl)
    (case k18 => first | k_is | rfl)
    (case l19 => first | k_is | rfl)
    (case c19 => first | k_is | rfl)
    (case k19 => first | k_is | rfl)
    (case l20 => first | k_is | rfl)
    (case c20 => first | k_is | rfl)
    (case k20 => first | k_is | rfl)
    (case l21 => first | k_is | rfl)
    (case c21 => first | k_is | rfl)
    (case k21 => first | k_is | rfl)
    (case l22 => first | k_is | rfl)
    (case c22 => first | k_is | rfl)
    (case k22 => first | k_is | rfl)
    (case l23 => first | k_is | rfl)
    (case c23 => first | k_is | rfl)
    (case k23 => first | k_is | rfl)
    (case l24 => first | k_is | rfl)
    (case c24 => first | k_is | rfl)
    (case k24 => first | k_is | rfl)
    (case l25 => first | k_is | rfl)
    (case c25 => first | k_is | rfl)
    (case k25 => first | k_is | rfl)
    (case l26 => first | k_is | rfl)
    (case c26 => first | k_is | rfl)
    (case k26 => first | k_is | rfl)
    (case l27 => first | k_is | rfl)
    (case c27 => first | k_is | rfl)
    (case k27 => first | k_is | rfl)
    (case l28 => first | k_is | rfl)
    (case c28 => first | k_is | rfl)
    (case k28 => first | k_is | rfl)
    (case l29 => first | k_is | rfl)
    (case c29 => first | k_is | rfl)
    (case k29 => first | k_is | rfl)
    (case l30 => first | k_is | rfl)
    (case c30 => first | k_is | rfl)
    (case k30 => first | k_is | rfl)
    (case l31 => first | k_is | rfl)
    (case c31 => first | k_is | rfl)
    (case k31 => first | k_is | rfl)
    (case l32 => first | k_is | rfl)
    (case c32 => first | k_is | rfl)
    (case k32 => first | k_is | rfl)
    (case l33 => first | k_is | rfl)
    (case c33 => first | k_is | rfl)
    (case k33 => first | k_is | rfl)
    (case l34 => first | k_is | rfl)
    (case c34 => first | k_is | rfl)
    (case k34 => first | k_is | rfl)
    (case l35 => first | k_is | rfl)
    (case c35 => first | k_is | rfl)
    (case k35 => first | k_is | rfl)
    (case l36 => first | k_is | rfl)
    (case c36 => first | k_is | rfl)
    (case k36 => first | k_is | rfl)
    (case l37 => first | k_is | rfl)
    (case c37 => first | k_is | rfl)
    (case k37 => first | k_is | rfl)
    (case l38 => first | k_is | rfl)
    (case c38 => first | k_is | rfl)
    (case k38 => first | k_is | rfl)
    (case l39 => first | k_is | rfl)
    (case c39 => first | k_is | rfl)
    (case k39 => first | k_is | rfl)
    (case l40 => first | k_is | rfl)
    (case c40 => first | k_is | rfl)
    (case k40 => first | k_is | rfl)
    (case l41 => first | k_is | rfl)
    (case c41 => first | k_is | rfl)
    (case k41 => first | k_is | rfl)
    (case l42 => first | k_is | rfl)
    (case c42 => first | k_is | rfl)
    (case k42 => first | k_is | rfl)
    (case l43 => first | k_is | rfl)
    (case c43 => first | k_is | rfl)
    (case k43 => first | k_is | rfl)
    (case l44 => first | k_is | rfl)
    (case c44 => first | k_is | rfl)
    (case k44 => first | k_is | rfl)
    (case l45 => first | k_is | rfl)
    (case c45 => first | k_is | rfl)
    (case k45 => first | k_is | rfl)
    (case l46 => first | k_is | rfl)
    (case c46 => first | k_is | rfl)
    (case k46 => first | k_is | rfl)
    (case z1 => first | k_is | rfl)
    (case z2 => first | k_is | rfl)
    (case z3 => first | k_is | rfl)
    (case z4 => first | k_is | rfl)
    (case z5 => first | k_is | rfl)
    (case z6 => first | k_is | rfl)
    (case z7 => first | k_is | rfl)
    (case z8 => first | k_is | rfl)
    (case z9 => first | k_is | rfl)
    (case z10 => first | k_is | rfl)
    (case z11 => first | k_is | rfl)
    (case z12 => first | k_is | rfl)
    (case z13 => first | k_is | rfl)
    (case gM => first | k_is | rfl)
    (case saT => first | k_is | rfl)
    (case tT => first | k_is | rfl)
    (case kT => first | k_is | rfl)
    (case gaW => first | k_is | rfl)
    (case ggW => first | k_is | rfl)
    (case noW => first | k_is | rfl)
    (case exW => first | k_is | rfl)
    (case tyW => first | k_is | rfl)
    (case hdW => first | k_is | rfl)
    (case icW => first | k_is | rfl)
    (case meW => first | k_is | rfl)
    (case gaN => first | k_is | rfl)
    (case ggN => first | k_is | rfl)
    (case noN => first | k_is | rfl)
    (case exN => first | k_is | rfl)
    (case tyN => first | k_is | rfl)
    (case hdN => first | k_is | rfl)
    (case icN => first | k_is | rfl)
    (case meN => first | k_is | rfl)
    (case gaT => first | k_is | rfl)
    (case ggT => first | k_is | rfl)
    (case noT => first | k_is | rfl)
    (case exT => first | k_is | rfl)
    (case tyT => first | k_is | rfl)
    (case hdT => first | k_is | rfl)
    (case icT => first | k_is | rfl)
    (case meT => first | k_is | rfl)
    (case nw => first | k_is | rfl)
    (case tw => first | k_is | rfl)
    (case tn => first | k_is | rfl)
  case hC => exact fun w => by kernel_rfl
  case hN => exact fun w => by kernel_rfl
