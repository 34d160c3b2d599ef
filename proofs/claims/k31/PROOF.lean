import PyProof.Rows.All
import Wide.All
import OpenK.AllK
import Wide.FinOn
import HandS.ForMost
import HandS.WideBits
import HandS.IsInst
import HandS.Strs
import HandS.SetFor
import HandS.Flow
import HandS.Style
import HandS.More
import HandS.Evl
import KE.SortData
import PyProof.ReprRoads
import HandS.Ends
import HandS.Star
import HandS.TupAny
import PySem.Challenge.RW_eithersums_k31_heights_and_leaves
set_option Elab.async false
set_option linter.all false
set_option maxRecDepth 100000
set_option maxHeartbeats 4000000
namespace Es
open PySem PySem.Spec PyProof.Rows L2
structure FnG (P : Program) (w : World) (K : PySem.W.Frag) (mg : Str → Option Value) (base : Heap)
    (k : Nat) (f : Addr) (fd : FuncData) (ps : List Str) (sp : Sp) : Prop where
  lenG : ∀ {vs H Q E}, sp vs H Q E → vs.length = ps.length
  runG : ∀ {B : Around} {out : List Env} {t : Shared} {G : Hp} {ar : Args} {xs : List Value} {ys : List V} {R : VK} {E : XK},
    Room k B → B.guards = some [] → Env0 P w K mg base B out t G → BindsTo t fd ar (ps.zip xs) → Vals ys xs → sp ys G R E →
    codeAny (model P w) B (.call (.ref f) ar) (CR CX0 out P w G t R E) t
section
variable {P : Program} {w : World} {K : PySem.W.Frag} {mg : Str → Option Value} {base : Heap}
theorem FnG.up {j k : Nat} {f : Addr} {fd : FuncData} {ps : List Str} {sp : Sp} (F : FnG P w K mg base j f fd ps sp) (h : j ≤ k) :
    FnG P w K mg base k f fd ps sp :=
  ⟨F.lenG, fun hr hg he hb hv hs => F.runG (hr.mono h) hg he hb hv hs⟩
theorem fng_of {k : Nat} {f : Addr} {nm ql : Str} {pr : Arguments} {bd : List Stmt} {sc : Scope} {dV kV doc pm cdv ct oc : Value}
    {an od : Option Addr} {osl : Array (Option Value)} {N ps : List Str} {sp : Sp}
    (look : K.lookup f = some ⟨oc, od, .func (PySem.W.fnOf nm ql pr bd sc dV kV doc pm an cdv ct), osl⟩)
    (cod : PySem.W.codeIn K cdv ql = true) (S : FnScope N ps sc)
    (ln : ∀ {vs H Q E}, sp vs H Q E → vs.length = ps.length)
    (body : ∀ (B : Around) (out : List Env) (t : Shared) (G : Hp) (ys : List V) (R : VK) (E : XK),
      Room k (B.deeper (envOfC ql sc t.heap.objs.size f cdv)) → B.guards = some [] → sp ys G R E →
      ∃ r, PSs (cxOf CX0 P w K mg base N ql sc f cdv B out t G E) bd r ∧ r { nx := fun _ G' => R .non G', rt := R } (start N ys) G) :
    FnG P w K mg base (k + 1) f (PySem.W.fnOf nm ql pr bd sc dV kV doc pm an cdv ct) ps sp := by
  refine ⟨ln, ?_⟩
  intro B out t G ar xs ys R E room gd env0 bind rel want
  have lens := ln want
  have keepB : ∀ b o, base.get? b = some o → t.heap.get? b = some o := fun b o e => (env0.bs b o e).1
  have inK : K.In t.heap := env0.mod.kin.keeps keepB
  have nolim : t.heap.NoLimit := env0.mod.nolimit.keeps keepB
  refine codeAny_call_function room.depth (inK _ _ look) rfl S.co S.gen rfl (PySem.W.codeRec_of inK cod) (bind _ _ _ _ ?_)
  refine wpAny_newFunctionEnv_cells S.kind (fun p hp => ?_) (fun ev hev t1 st => ?_)
  · obtain ⟨n, v⟩ := p
    cases S.par n (List.of_mem_zip hp).1 with
    | inl z => exact Or.inl z
    | inr z => exact Or.inr ⟨z, PySem.W.cellsFrom_some _ _ _ (Or.inl z)⟩
  · subst hev
    refine ⟨nolim.keeps st.toInCall.keep, codeAny_func ?_⟩
    obtain ⟨r, hr1, hr2⟩ := body B out t G ys R E (room.deeper _) gd want
    have J0 : Inv (cxOf CX0 P w K mg base N ql sc f cdv B out t G E) [] (start N ys) G t1 := inv_start S room.hd env0 lens rel st
    refine wpAny_mono (hr1.run [] t1 (start N ys) G _ J0 hr2) ?_ (fun e t2 h2 => h2)
    intro fl t2 h2
    have done : ∀ {σ2 : L2.St} {G2 : Hp} {v : V} {u : Value}, Inv (cxOf CX0 P w K mg base N ql sc f cdv B out t G E) [] σ2 G2 t2 → RelV v u → R v G2 → CE out P w G t R u t2 := by
      intro σ2 G2 v u J rv q
      exact ⟨v, G2, J.os, J.bare, J.base, J.hok, rv, q⟩
    cases fl with
    | next => obtain ⟨σ2, G2, J, q⟩ := h2; exact done (v := V.non) (u := Value.none) J rfl q
    | ret u => obtain ⟨v, σ2, G2, J, rv, q⟩ := h2; exact done J rv q
    | brk => obtain ⟨_, _, _, q⟩ := h2; exact q.elim
    | cont => obtain ⟨_, _, _, q⟩ := h2; exact q.elim
theorem okG {x qual : Str} {st : Stmt} {f : Addr} {fd : FuncData} {N ps : List Str} {k : Nat} {sp : Sp} (F : Fun K x qual st f fd) (S : FnScope N ps (defScope st))
    (ln : ∀ {vs H Q E}, sp vs H Q E → vs.length = ps.length)
    (body : ∀ (cdv : Value) (B : Around) (out : List Env) (t : Shared) (G : Hp) (ys : List V) (R : VK) (E : XK),
      Room k (B.deeper (envOfC qual (defScope st) t.heap.objs.size f cdv)) → (B.deeper (envOfC qual (defScope st) t.heap.objs.size f cdv)).guards = some [] → sp ys G R E →
      ∃ r, PSs (cxOf CX0 P w K mg base N qual (defScope st) f cdv B out t G E).nox (defBody st) r ∧ r { nx := fun _ G' => R .non G', rt := R } (start N ys) G) :
    FnG P w K mg base (k + 1) f fd ps sp := by
  obtain ⟨oc, od, kV, doc, pm, an, cdv, ct, osl, rfl, lk, hcd⟩ := F.ex
  refine fng_of lk hcd S ln ?_
  intro B out t G ys R E hr hg want
  obtain ⟨r, h1, h2⟩ := body cdv B out t G ys R E hr hg want
  exact ⟨r, h1.nox, h2⟩
end
section
variable {X : Cx} {k : Nat} {f : Addr} {fd : FuncData} {ps : List Str} {sp : Sp} {x : Str} {p pos : Pos} {e : Expr} {es : List Expr} {t : TA}
theorem runG_call {pins : List (Addr × Obj)} {σ : L2.St} {H : Hp} {s : Shared} {Q : VK} {us : List Value} {vs : List V} (F : FnG X.prog X.w X.K X.mg X.base k f fd ps sp)
    (hr : Room k X.A) (hg : X.A.guards = some []) (hb : Binds X.K fd ps []) (I : Inv X pins σ H s) (r : Vals vs us) (h : sp vs H Q E0) :
    wpAny (model X.prog X.w) X.A (call (.ref f) us) (EP X pins σ Q) X.xe s := by
  have l1 : (us ++ []).length = ps.length := by
    rw [List.append_nil, ← r.length]
    exact F.lenG h
  have b1 := hb s us I.kIn l1
  rw [List.append_nil] at b1
  refine wpAny_call (codeAny_mono (F.runG hr hg I.env0 b1 r h) ?_)
  intro z s' hz
  cases z with
  | error e => exact False.elim hz
  | ok fl =>
    cases fl with
    | ret u => exact I.after hz
    | next => exact False.elim hz
    | brk => exact False.elim hz
    | cont => exact False.elim hz
theorem pe_callG (F : FnG X.prog X.w X.K X.mg X.base k f fd ps sp) (hr : Room k X.A) (hg : X.A.guards = some []) (hgl : Gl X x) (hm : X.mg x = some (.ref f)) (hk : PySem.W.keepIn X.K (.ref f) = true)
    (hb : Binds X.K fd ps []) (ha : PA X (e :: es) t) (hd : (x == ("__debug__" : Str)) = false := by decide)
    (h1 : starEach (e :: es) X.env = (false, eval e X.env) :: starEach es X.env := by rfl) (h2 : (backTo pos (starEach es X.env)).any (·.1) = false := by rfl) :
    PE X (.Call (.Name x p) (e :: es) [] pos) (tCall sp [] E0 t) := by
  refine ⟨fun pins s σ H Q I h => ?_⟩
  refine wpAny_Call_Name_kw (ld_glob I hgl hm ?_ hd)
  refine PySem.W.callWith_K (h₀ := X.base) I.ok.mod.kin hk ?_ h1 h2
  refine thn (ha.run pos pins s σ H _ I h) ?_
  rintro us s1 ⟨vs, H1, I1, r, q⟩
  refine ⟨I1.kIn, ?_⟩
  have q : sp (vs ++ []) H1 Q E0 := q
  rw [List.append_nil] at q
  exact runG_call F hr hg hb I1 r q
end
end Es
set_option Elab.async false
set_option linter.all false
set_option maxRecDepth 100000
set_option maxHeartbeats 4000000
namespace Es
open PySem PySem.Spec PyProof.Rows L2
def Callee (X : Cx) (k : Nat) (x : Str) (ps : List Str) (sp : Sp) : Prop :=
  ∃ (f : Addr) (fd : FuncData), FnG X.prog X.w X.K X.mg X.base k f fd ps sp ∧ X.mg x = some (.ref f) ∧ PySem.W.keepIn X.K (.ref f) = true ∧ Binds X.K fd ps []
def CalleeOf (P : Program) (w : World) (K : PySem.W.Frag) (mg : Str → Option Value) (base : Heap) (k : Nat) (x : Str) (ps : List Str) (sp : Sp) : Prop :=
  ∃ (f : Addr) (fd : FuncData), FnG P w K mg base k f fd ps sp ∧ mg x = some (.ref f) ∧ PySem.W.keepIn K (.ref f) = true ∧ Binds K fd ps []
section
variable {X : Cx} {k : Nat} {ps : List Str} {sp : Sp} {x : Str} {p pos : Pos} {e : Expr} {es : List Expr} {t : TA}
theorem pe_callC (c : CalleeOf X.prog X.w X.K X.mg X.base k x ps sp) (hr : Room k X.A) (hg : X.A.guards = some []) (hgl : Gl X x) (ha : PA X (e :: es) t) (hd : (x == ("__debug__" : Str)) = false := by decide)
    (h1 : starEach (e :: es) X.env = (false, eval e X.env) :: starEach es X.env := by rfl) (h2 : (backTo pos (starEach es X.env)).any (·.1) = false := by rfl) :
    PE X (.Call (.Name x p) (e :: es) [] pos) (tCall sp [] E0 t) := by
  obtain ⟨f, fd, F, hm, hk, hb⟩ := c
  exact pe_callG F hr hg hgl hm hk hb ha hd h1 h2
end
mutual
def nice : PyData → Bool
  | .none => true
  | .bool _ => true
  | .int i => decide (i.natAbs < 10 ^ 12)
  | .str x => PyData.strOk x && x.cps.toList.all fun c => decide (c < 16 ^ 8)
  | .list xs => niceAll xs
  | .tuple xs => niceAll xs
  | .dict _ => false
def niceAll : List PyData → Bool
  | [] => true
  | x :: xs => nice x && niceAll xs
end
theorem niceAll_iff : ∀ {xs : List PyData}, niceAll xs = true ↔ ∀ x ∈ xs, nice x = true
  | [] => by simp [niceAll]
  | x :: xs => by simp [niceAll, niceAll_iff (xs := xs)]
theorem log_nice {i : Int} (h : i.natAbs < 10 ^ 12) : i.natAbs.log2 < 1920 := by
  by_cases h0 : i.natAbs = 0
  · rw [h0]
    decide
  · have : i.natAbs.log2 < 40 := (Nat.log2_lt h0).mpr (Nat.lt_of_lt_of_le h (by decide))
    omega
mutual
theorem nice_facts : ∀ d : PyData, nice d = true → d.canLay0 = true ∧ d.showable = true ∧ d.hasDict = false ∧ d.leavesShort 13 = true
  | .none, _ => by decide
  | .bool b, _ => by cases b <;> decide
  | .int i, h => by
    have h : i.natAbs < 10 ^ 12 := of_decide_eq_true h
    refine ⟨?_, decide_eq_true (log_nice h), rfl, decide_eq_true (PyData.shown_int_le h)⟩
    simp [PyData.canLay0]
  | .str x, h => by
    have h : (PyData.strOk x && x.cps.toList.all fun c => decide (c < 16 ^ 8)) = true := h
    rw [Bool.and_eq_true] at h
    exact ⟨by simpa [PyData.canLay0] using h.1, rfl, rfl, h.2⟩
  | .list xs, h => by
    obtain ⟨a, b, c, d⟩ := niceAll_facts xs h
    exact ⟨by simpa [PyData.canLay0] using a, b, c, d⟩
  | .tuple xs, h => by
    obtain ⟨a, b, c, d⟩ := niceAll_facts xs h
    exact ⟨by simpa [PyData.canLay0] using a, b, c, d⟩
  | .dict _, h => by cases h
theorem niceAll_facts : ∀ xs : List PyData, niceAll xs = true → PyData.canLayAll0 xs = true ∧ PyData.showableAll xs = true ∧ PyData.hasDictAll xs = false ∧ PyData.leavesShortAll 13 xs = true
  | [], _ => by decide
  | x :: xs, h => by
    have h : (nice x && niceAll xs) = true := h
    rw [Bool.and_eq_true] at h
    obtain ⟨a, b, c, d⟩ := nice_facts x h.1
    obtain ⟨a2, b2, c2, d2⟩ := niceAll_facts xs h.2
    refine ⟨by simp [PyData.canLayAll0, a, a2], by simp [PyData.showableAll, b, b2], by simp [PyData.hasDictAll, c, c2], by simp [PyData.leavesShortAll, d, d2]⟩
end
theorem nice_shaped {d : PyData} (h : nice d = true) (hd : d.depth ≤ 40) : SeqAt.shaped d = true := by
  unfold SeqAt.shaped
  rw [(nice_facts d h).1, Bool.true_and]
  exact decide_eq_true (by omega)
section
variable {X : Cx}
def rAtL (K : PySem.W.Frag) : V → V → Hp → VK → Prop := fun x y H Q => ∃ (p : Addr) (xs : List V) (i : Nat) (v : V), x = .ref p ∧ y = .int (i : Int) ∧ SqL K H p xs ∧ xs[i]? = some v ∧ Q v H
theorem get_list : PGet X (rAtL X.K) := by
  intro pins s σ H o i ov iv Q I ro ri h
  obtain ⟨p, xs, j, v, rfl, rfl, hs, ha, q⟩ := h
  cases ro
  obtain ⟨t, rfl⟩ := ri
  obtain ⟨its, r, pl, hz⟩ := I.list hs
  obtain ⟨u, hu, ru⟩ := r.get ha
  have hj : j < its.length := (List.getElem?_eq_some_iff.mp hu).1
  have hl := r.length
  have hn := line63
  refine wpAny_getItem_list (x := u) pl.isList (by omega) ?_ (by simpa using hu) ⟨v, H, I, ru, q⟩
  omega
def rReprN (K : PySem.W.Frag) : List V → Hp → VK → Prop := fun xs H Q =>
  ∃ v d, xs = [v] ∧ Dp K H v d ∧ nice d = true ∧ d.depth ≤ 40 ∧ d.weight ≤ 2 ^ 20 ∧ Q (.str d.shown) H
theorem cr_repr (hg : X.A.guards = some []) (hu : X.A.units + 64 < cLine) : CallR X (.builtin "repr") (rReprN X.K) := by
  intro pins s σ H xs us Q I r h
  obtain ⟨v, d, rfl, hd, ni, dp, wt, q⟩ := h
  obtain ⟨u, rfl, ru⟩ := vals1 r
  obtain ⟨c1, c2, c3, c4⟩ := nice_facts d ni
  have fit : d.shown.length ≤ sizeLine := PyData.shown_fits (B := 13) (by decide) (by decide) c4 wt
  obtain ⟨as, rd⟩ := Dp.reads I d v u hd ru
  have endIt : ∀ (h' : Heap) (w tk : Tok), (∀ b o, s.heap.get? b = some o → h'.get? b = some o) → EP X pins σ Q (.str d.shown w) { s with heap := h', toks := tk } :=
    fun h' w tk k => ⟨.str d.shown, H, I.kept k, ⟨w, rfl⟩, q⟩
  cases hd with
  | non =>
    cases ru
    refine PySem.P.repr_of_none ?_
    have := endIt s.heap s.toks (s.toks + 1) fun _ _ e => e
    rwa [PyData.shown_none] at this
  | bl b =>
    cases ru
    refine PySem.P.repr_of_bool ?_
    have := endIt s.heap s.toks (s.toks + 1) fun _ _ e => e
    rwa [PyData.shown_bool] at this
  | int i =>
    obtain ⟨t, rfl⟩ := ru
    refine PySem.P.repr_of_int (log_nice (of_decide_eq_true ni)) ?_
    have := endIt s.heap s.toks (s.toks + 1) fun _ _ e => e
    rwa [PyData.shown_int] at this
  | str x =>
    obtain ⟨t, rfl⟩ := ru
    refine PySem.P.repr_of_str ?_ (by rw [← PyData.shown_str]; exact fit)
    have := endIt s.heap s.toks (s.toks + 1) fun _ _ e => e
    rwa [PyData.shown_str] at this
  | lst h1 h2 =>
    cases ru
    exact repr_of_reads' rd c2 (PyData.noDict_hsm c3) hg (by omega) (fun _ _ e => e) endIt fit
  | tup h1 h2 =>
    cases ru
    exact repr_of_reads' rd c2 (PyData.noDict_hsm c3) hg (by omega) (fun _ _ e => e) endIt fit
def rSetI (K : PySem.W.Frag) (w : World) : List V → Hp → VK → Prop := fun xs H Q =>
  ∃ (a : Addr) (ns : List Int), xs = [.ref a] ∧ SqT K H a (ns.map V.int) ∧ ns.length ≤ 1000 ∧
    ∀ p c, H p = none → c ≤ ns.length → Q (.ref p) (upd H p (SetO w p (fun j => decide (j ∈ ns)) c))
theorem cr_setSeq (hc : X.calm = true) : CallR X (.type "set") (rSetI X.K X.w) := by
  intro pins s σ H xs us Q I r h
  obtain ⟨a, ns, rfl, ht, hl, q⟩ := h
  rw [Vals.ref1 r]
  obtain ⟨its, rv, pt, hz⟩ := I.tuple ht
  have hi : IntsAre its.toArray.toList ns := ints_of_vals rv
  refine call_set_tupI ns (I.ok.hd hc) (show s.heap.IsTuple a its.toArray from pt) hi (by unfold scanBound; omega) ?_
  intro h' tk c R1 hcn kp
  refine ⟨.ref s.heap.objs.size, upd H s.heap.objs.size (SetO X.w s.heap.objs.size (fun j => decide (j ∈ ns)) c), ?_, rfl, q _ c (I.hok.fresh (Nat.le_refl _)) hcn⟩
  exact I.laid (t' := tk) kp (Nat.le_refl _) (setO_new R1)
def rSortedData (K : PySem.W.Frag) : List V → Hp → VK → Prop := fun xs H Q =>
  ∃ (a : Addr) (bs : List (V × PyData)), xs = [.ref a] ∧ SqL K H a (bs.map (·.1)) ∧ (∀ b ∈ bs, Dp K H b.1 b.2) ∧ PySem.W.AllAlike (bs.map (·.2)) ∧ PySem.W.Sortable (bs.map (·.2)) ∧ (∀ b ∈ bs, b.2.depth ≤ 40) ∧
    ∀ p, H p = none → Q (.ref p) (upd H p (.lst ((bs.mergeSort (PySem.W.dataLe false (·.2))).map (·.1))))
theorem each_of {K : PySem.W.Frag} {H : Hp} {pins : List (Addr × Obj)} {σ : L2.St} {s : Shared} (I : Inv X pins σ H s) : ∀ (bs : List (V × PyData)) (its : List Value), Vals (bs.map (·.1)) its → (∀ b ∈ bs, Dp X.K H b.1 b.2) →
    PySem.W.EachIs (fun u (b : V × PyData) => RelV b.1 u) its bs ∧ PySem.W.EachIs (fun u (b : V × PyData) => ∃ as, Reads s.heap u b.2 as) its bs
  | [], _, r, _ => by
    cases r
    exact ⟨.nil, .nil⟩
  | b :: bs, _, r, h => by
    cases r with
    | cons r1 r2 =>
      obtain ⟨e1, e2⟩ := each_of (K := K) I bs _ r2 fun x hx => h x (List.mem_cons_of_mem _ hx)
      exact ⟨.cons r1 e1, .cons (Dp.reads I _ _ _ (h b List.mem_cons_self) r1) e2⟩
theorem vals_each : ∀ {out : List Value} {bs : List (V × PyData)}, PySem.W.EachIs (fun u (b : V × PyData) => RelV b.1 u) out bs → Vals (bs.map (·.1)) out
  | _, _, .nil => .nil
  | _, _, .cons r t => .cons r (vals_each t)
theorem cr_sortedData (hu : X.A.units + 64 < cLine) : CallR X (.builtin "sorted") (rSortedData X.K) := by
  intro pins s σ H xs us Q I r h
  obtain ⟨a, bs, rfl, hs, hd, al, so, dp, q⟩ := h
  rw [Vals.ref1 r]
  obtain ⟨its, rv, pl, hz⟩ := I.list hs
  obtain ⟨e1, e2⟩ := each_of (K := X.K) I bs its rv hd
  have hz2 : bs.length ≤ sizeLine := by
    rw [List.length_map] at hz
    exact hz
  refine PySem.W.sorted_data pl.isList e1 e2 al so hz2 (fun b hb => by have := dp b hb; omega) ?_
  intro out ho eo
  have ro := vals_each eo
  obtain ⟨c, hc⟩ := sortedAll_at s.heap its out.toArray
  refine ⟨.ref (s.heap.objs.size + 1), upd H (s.heap.objs.size + 1) (.lst ((bs.mergeSort (PySem.W.dataLe false (·.2))).map (·.1))), ?_, rfl, q _ (I.hok.fresh (Nat.le_succ _))⟩
  refine I.laid (t' := s.toks) (fun _ _ => sortedAll_old) (Nat.le_succ _) ⟨?_, out, c, ro, hc⟩
  rw [List.length_map, List.length_mergeSort]
  exact hz2
end
end Es
set_option Elab.async false
set_option linter.all false
set_option maxRecDepth 100000
set_option maxHeartbeats 4000000
namespace Es
open PySem PySem.Spec PyProof.Rows L2
theorem lawG_at {P : Program} {w : World} {K : PySem.W.Frag} {mg mb : Str → Option Value} {k : Nat} {fa a : Addr} {fd : FuncData} {x : Str} {sp : Sp} {t : Shared} {xs : List Value}
    (inK : K.In t.heap) (gns : t.heap.Ns mainGlobals mg) (bns : t.heap.Ns builtinsNs mb) (bst : ∀ x : Str, x ≠ "__name__" → mb x = bootBuiltins x) (lim : t.heap.NoLimit) (gen : t.gens = #[])
    (scr : t.heap.get? a = some { cls := .type "list", data := .seq xs.toArray }) (room : Room k callerA)
    (F : ∀ base : Heap, K.In base → base.Ns mainGlobals mg → FnG P w K mg base k fa fd [x] sp) (bind : ∀ (s : Shared) (u : Value), BindsTo s fd ⟨[u], []⟩ [(x, u)])
    (H : Hp) (only : Only H) (held : HOk P w H t.heap) (atA : ∀ b o, H b = some o → b = a) (notK : ∀ o, H a = some o → K.lookup a = none)
    (want : sp [.ref a] H (fun v _ => v = .bl true) E0) :
    codeAny (model P w) callerA (.call (.ref fa) ⟨[.ref a], []⟩) (fun r s' => r = .ok (.ret (.bool true)) ∧ PySem.OldK t.heap s'.heap ∧ s'.os = t.os ∧ AllBare s'.gens) t := by
  have seen : ∀ {b : Addr} {o : Obj}, t.heap.get? b = some o → (b = a → False) → (hidT t.heap H).get? b = some o := by
    intro b o e nb
    refine hidT_get e ?_
    cases hb : H b with
    | none => rfl
    | some u => exact (nb (atA b u hb)).elim
  have dictSeen : ∀ {b : Addr} {m : Str → Option Value}, t.heap.Ns b m → (hidT t.heap H).Ns b m := by
    rintro b m ⟨o, es, ep, e, d, more⟩
    refine ⟨o, es, ep, seen e ?_, d, more⟩
    rintro rfl
    rw [scr] at e
    cases e
    cases d
  have inB : K.In (hidT t.heap H) := by
    intro b o e
    cases hb : H b with
    | none => exact hidT_get (inK b o e) hb
    | some u =>
      have ab := atA b u hb
      subst ab
      rw [notK u hb] at e
      cases e
  obtain ⟨mc, lm1, lm2⟩ := lim
  have md : Mod K mg (hidT t.heap H) := ⟨inB, dictSeen gns, ⟨mb, dictSeen bns, bst⟩, ⟨mc, dictSeen lm1, lm2⟩⟩
  have env : Env0 P w K mg (hidT t.heap H) callerA [] t H :=
    ⟨rfl, md, fun _ _ e => of_hidT e, Nat.le_of_eq (hidT_size _ _), trivial, (fun b hb => by cases hb), held, .of_eq gen⟩
  have run := (F _ inB (dictSeen gns)).runG (out := []) (t := t) (G := H) (ar := ⟨[.ref a], []⟩) (xs := [.ref a]) (ys := [.ref a]) room rfl env (bind t (.ref a)) (.cons rfl .nil) want
  refine codeAny_mono run ?_
  intro r s' h
  cases r with
  | error e => exact False.elim h
  | ok fl =>
    cases fl with
    | next => exact False.elim h
    | brk => exact False.elim h
    | cont => exact False.elim h
    | ret u =>
      obtain ⟨v, H', os, bare, un, held', rel, q⟩ := h
      have q : v = .bl true := q
      subst q
      have rel : u = Value.bool true := rel
      subst rel
      refine ⟨rfl, PySem.OldK.of_keep ?_, os, bare⟩
      intro b o e
      cases hb : H b with
      | none => exact un.keep b o e hb (fun z => by cases z) (fun z => by cases z)
      | some y =>
        rcases only b with z | ⟨ob, ls, z⟩
        · rw [hb] at z
          cases z
        · obtain ⟨g1, _⟩ := held b _ z
          obtain ⟨g2, _⟩ := held' b _ (un.frzs b ob _ z)
          rw [e] at g1
          cases g1
          exact g2
theorem walkG {l : PySem.W.OpenLaw} {n k : Nat} {q : Program} {loose : List Str} {XP : (Str → Option Value) → Heap → Prop} {YP : World → Heap → Prop} {d : PySem.DefRec} {K : Params → PySem.W.Frag} {sp : PySem.W.Frag → Sp} {x : Str}
    (hn : l.most = some n) (hn2 : n ≤ sizeLine) (hdf : d.params.defaults = []) (hr : Room k callerA)
    (hY : ∀ (w : World) (h : Heap), YP w h → (K w.params).In h)
    (F : ∀ (w : World) (mg : Str → Option Value) (fa : Addr) (h : Heap), (K w.params).In h → h.Ns mainGlobals mg → mg d.name = some (.ref fa) →
      ∃ fd : FuncData, (∀ (s : Shared) (u : Value), BindsTo s fd ⟨[u], []⟩ [(x, u)]) ∧
        ∀ base : Heap, (K w.params).In base → base.Ns mainGlobals mg → FnG l.prog w (K w.params) mg base k fa fd [x] (sp (K w.params)))
    (hsp : ∀ (K : PySem.W.Frag) (H : Hp) (a : Addr) (ns : List Int), ns.length ≤ n → SqL K H a (ns.map V.int) → sp K [.ref a] H (fun v _ => v = .bl true) E0) :
    PySem.W.WalkO q loose XP YP l.row.toRowW d [] (fun f vs => PySem.call f vs) := by
  refine Att.attach_call hn hdf ?_
  intro w s₀ t mg mb fa o pm cd doc a xs ns G Y ho hd hcd hmg scr hints len gen
  have inK := hY w _ Y
  obtain ⟨fd, bind, FF⟩ := F w mg fa _ inK G.T.g hmg
  have vals := vals_ints hints
  have lens := hints.length
  have lenX : xs.length ≤ sizeLine := by omega
  cases hk : (K w.params).lookup a with
  | some ob =>
    have e := inK a ob hk
    rw [scr] at e
    cases e
    refine lawG_at inK G.T.g G.T.b G.T.builtins G.T.nolimit gen scr hr FF bind (fun _ => none) (fun _ => .inl rfl) (fun _ _ z => by cases z) (fun _ _ z => by cases z) (fun _ z => by cases z) ?_
    refine hsp _ _ a ns len (.inr ⟨_, xs.toArray, _, hk, rfl, rfl, rfl, ?_, ?_⟩)
    · rw [List.size_toArray]
      exact lenX
    · simpa using vals
  | none =>
    refine lawG_at inK G.T.g G.T.b G.T.builtins G.T.nolimit gen scr hr FF bind
      (fun b => if b = a then some (.frz { cls := .type "list", data := .seq xs.toArray } (.lst (ns.map V.int))) else none) ?_ ?_ ?_ (fun _ _ => hk) ?_
    · intro b
      by_cases hb : b = a
      · exact .inr ⟨_, _, if_pos hb⟩
      · exact .inl (if_neg hb)
    · intro b u z
      by_cases hb : b = a
      · have z2 := (if_pos hb).symm.trans z
        cases z2
        subst hb
        refine ⟨scr, ?_, xs, _, vals, scr⟩
        rw [List.length_map]
        omega
      · have z2 := (if_neg hb).symm.trans z
        cases z2
    · intro b u z
      by_cases hb : b = a
      · exact hb
      · have z2 := (if_neg hb).symm.trans z
        cases z2
    · exact hsp _ _ a ns len (.inl (.inr ⟨_, if_pos rfl⟩))
end Es
namespace Es
def bts (m : Nat) : List Nat := (List.range 63).filter fun u => m.testBit u
theorem mem_bts {m u : Nat} : u ∈ bts m ↔ u < 63 ∧ m.testBit u = true := by simp [bts]
theorem bts_lt (m : Nat) : (bts m).Pairwise (· < ·) := List.Pairwise.filter _ List.pairwise_lt_range
theorem bts_len (m : Nat) : (bts m).length ≤ 63 := by
  have := List.length_filter_le (fun u => m.testBit u) (List.range 63)
  simpa [bts] using this
theorem bts_zero : bts 0 = [] := by simp [bts]
theorem bit_ge {m u : Nat} (h : m < 2 ^ 63) (hu : 63 ≤ u) : m.testBit u = false :=
  Nat.testBit_lt_two_pow (Nat.lt_of_lt_of_le h (Nat.pow_le_pow_right (by decide) hu))
theorem mask_ext {a b : Nat} (ha : a < 2 ^ 63) (hb : b < 2 ^ 63) (h : ∀ u, u < 63 → a.testBit u = b.testBit u) : a = b := by
  refine Nat.eq_of_testBit_eq fun u => ?_
  by_cases hu : u < 63
  · exact h u hu
  · rw [bit_ge ha (by omega), bit_ge hb (by omega)]
theorem bts_inj {a b : Nat} (ha : a < 2 ^ 63) (hb : b < 2 ^ 63) (h : bts a = bts b) : a = b := by
  refine mask_ext ha hb fun u hu => ?_
  have h1 : u ∈ bts a ↔ u ∈ bts b := by rw [h]
  rw [mem_bts, mem_bts] at h1
  cases x : a.testBit u <;> cases y : b.testBit u <;> simp_all
theorem asc_unique : ∀ {a b : List Nat}, a.Pairwise (· < ·) → b.Pairwise (· < ·) → (∀ u, u ∈ a ↔ u ∈ b) → a = b
  | [], [], _, _, _ => rfl
  | [], y :: b, _, _, h => by have := (h y).mpr List.mem_cons_self; cases this
  | x :: a, [], _, _, h => by have := (h x).mp List.mem_cons_self; cases this
  | x :: a, y :: b, ha, hb, h => by
    obtain ⟨a1, a2⟩ := List.pairwise_cons.mp ha
    obtain ⟨b1, b2⟩ := List.pairwise_cons.mp hb
    have e : x = y := by
      rcases List.mem_cons.mp ((h x).mp List.mem_cons_self) with e | m
      · exact e
      · rcases List.mem_cons.mp ((h y).mpr List.mem_cons_self) with e | m2
        · exact e.symm
        · have := a1 _ m2; have := b1 _ m; omega
    subst e
    refine congrArg (x :: ·) (asc_unique a2 b2 fun u => ?_)
    constructor
    · intro m
      rcases List.mem_cons.mp ((h u).mp (List.mem_cons_of_mem _ m)) with e | m2
      · have := a1 _ m; omega
      · exact m2
    · intro m
      rcases List.mem_cons.mp ((h u).mpr (List.mem_cons_of_mem _ m)) with e | m2
      · have := b1 _ m; omega
      · exact m2
theorem bts_of {l : List Nat} {m : Nat} (hl : l.Pairwise (· < ·)) (h : ∀ u, u ∈ l ↔ u < 63 ∧ m.testBit u = true) : l = bts m :=
  asc_unique hl (bts_lt m) fun u => by rw [h, mem_bts]
theorem bts_nil {m : Nat} (hm : m < 2 ^ 63) (h : bts m = []) : m = 0 :=
  bts_inj hm (by decide) (by rw [h, bts_zero])
theorem xor_lt {a b : Nat} (ha : a < 2 ^ 63) (hb : b < 2 ^ 63) : a ^^^ b < 2 ^ 63 := Nat.xor_lt_two_pow ha hb
def low (m : Nat) : Option Nat := (bts m).head?
theorem low_iff {m h : Nat} : low m = some h ↔ h < 63 ∧ m.testBit h = true ∧ ∀ j, j < h → m.testBit j = false := by
  unfold low
  cases e : bts m with
  | nil =>
    constructor
    · intro q; cases q
    · rintro ⟨h1, h2, _⟩
      have : h ∈ bts m := mem_bts.mpr ⟨h1, h2⟩
      rw [e] at this; cases this
  | cons x r =>
    have hx : x ∈ bts m := by rw [e]; exact List.mem_cons_self
    have hp := bts_lt m
    rw [e] at hp
    obtain ⟨p1, _⟩ := List.pairwise_cons.mp hp
    obtain ⟨x1, x2⟩ := mem_bts.mp hx
    have least : ∀ j, j < x → m.testBit j = false := by
      intro j hj
      cases q : m.testBit j with
      | false => rfl
      | true =>
        have : j ∈ bts m := mem_bts.mpr ⟨by omega, q⟩
        rw [e] at this
        rcases List.mem_cons.mp this with z | z
        · omega
        · have := p1 _ z; omega
    constructor
    · intro q
      have q : x = h := Option.some.inj q
      subst q
      exact ⟨x1, x2, least⟩
    · rintro ⟨h1, h2, h3⟩
      show some x = some h
      have : ¬ x < h := fun z => by have := h3 x z; rw [x2] at this; cases this
      have : ¬ h < x := fun z => by have := least h z; rw [h2] at this; cases this
      congr 1; omega
theorem low_none {m : Nat} (hm : m < 2 ^ 63) : low m = none ↔ m = 0 := by
  constructor
  · intro h
    exact bts_nil hm (List.head?_eq_none_iff.mp h)
  · rintro rfl
    rfl
theorem low_some {m : Nat} (hm : m < 2 ^ 63) (h : m ≠ 0) : ∃ k, low m = some k := by
  cases e : low m with
  | none => exact absurd ((low_none hm).mp e) h
  | some k => exact ⟨k, rfl⟩
theorem low_xor {a b h k : Nat} (ha : low a = some h) (hb : low b = some k) (hk : h < k) : low (a ^^^ b) = some h := by
  obtain ⟨a1, a2, a3⟩ := low_iff.mp ha
  obtain ⟨b1, b2, b3⟩ := low_iff.mp hb
  refine low_iff.mpr ⟨a1, ?_, fun j hj => ?_⟩
  · rw [Nat.testBit_xor, a2, b3 h hk]; rfl
  · rw [Nat.testBit_xor, a3 j hj, b3 j (by omega)]; rfl
theorem low_xor_same {a b h k : Nat} (ha : low a = some h) (hb : low b = some h) (hk : low (a ^^^ b) = some k) : h < k := by
  obtain ⟨a1, a2, a3⟩ := low_iff.mp ha
  obtain ⟨b1, b2, b3⟩ := low_iff.mp hb
  obtain ⟨k1, k2, k3⟩ := low_iff.mp hk
  rw [Nat.testBit_xor] at k2
  by_cases e : k = h
  · subst e
    rw [a2, b2] at k2
    cases k2
  · have : ¬ k < h := fun z => by
      rw [a3 k z, b3 k z] at k2
      cases k2
    omega
def Spn : List Nat → Nat → Prop
  | [], x => x = 0
  | m :: ms, x => Spn ms x ∨ Spn ms (x ^^^ m)
theorem xx (a b : Nat) : a ^^^ b ^^^ b = a := by rw [Nat.xor_assoc, Nat.xor_self, Nat.xor_zero]
theorem Spn.zero : ∀ ms, Spn ms 0
  | [] => rfl
  | _ :: ms => .inl (Spn.zero ms)
theorem Spn.xor : ∀ {ms : List Nat} {x y : Nat}, Spn ms x → Spn ms y → Spn ms (x ^^^ y)
  | [], x, y, hx, hy => by
    have hx : x = 0 := hx
    have hy : y = 0 := hy
    subst hx; subst hy; rfl
  | m :: ms, x, y, hx, hy => by
    rcases hx with hx | hx <;> rcases hy with hy | hy
    · exact .inl (Spn.xor hx hy)
    · refine .inr ?_
      rw [Nat.xor_assoc]
      exact Spn.xor hx hy
    · refine .inr ?_
      rw [Nat.xor_assoc, Nat.xor_comm y m, ← Nat.xor_assoc]
      exact Spn.xor hx hy
    · refine .inl ?_
      have := Spn.xor hx hy
      rwa [Nat.xor_comm y m, ← Nat.xor_assoc, Nat.xor_assoc x m m, Nat.xor_self, Nat.xor_zero] at this
theorem Spn.mem : ∀ {ms : List Nat} {x : Nat}, x ∈ ms → Spn ms x
  | m :: ms, x, h => by
    rcases List.mem_cons.mp h with e | h
    · subst e
      exact .inr (by rw [Nat.xor_self]; exact Spn.zero ms)
    · exact .inl (Spn.mem h)
theorem Spn.sub : ∀ {as bs : List Nat} {x : Nat}, (∀ a ∈ as, Spn bs a) → Spn as x → Spn bs x
  | [], bs, x, _, h => by
    have h : x = 0 := h
    subst h
    exact Spn.zero bs
  | a :: as, bs, x, hs, h => by
    have ht : ∀ c ∈ as, Spn bs c := fun c hc => hs c (List.mem_cons_of_mem _ hc)
    rcases h with h | h
    · exact Spn.sub ht h
    · have h1 := Spn.sub ht h
      have h2 := Spn.xor h1 (hs a List.mem_cons_self)
      rwa [xx] at h2
theorem Spn.left {as bs : List Nat} {x : Nat} (h : Spn as x) : Spn (as ++ bs) x := Spn.sub (fun _ ha => Spn.mem (List.mem_append_left _ ha)) h
theorem Spn.bits0 {h : Nat} : ∀ {ms : List Nat} {x : Nat}, (∀ m ∈ ms, m.testBit h = false) → Spn ms x → x.testBit h = false
  | [], x, _, hx => by
    have hx : x = 0 := hx
    subst hx; simp
  | m :: ms, x, hm, hx => by
    have ht : ∀ c ∈ ms, c.testBit h = false := fun c hc => hm c (List.mem_cons_of_mem _ hc)
    rcases hx with hx | hx
    · exact Spn.bits0 ht hx
    · have := Spn.bits0 ht hx
      rw [Nat.testBit_xor, hm m List.mem_cons_self] at this
      simpa using this
theorem Spn.lt : ∀ {ms : List Nat} {x : Nat}, (∀ m ∈ ms, m < 2 ^ 63) → Spn ms x → x < 2 ^ 63
  | [], x, _, h => by
    have h : x = 0 := h
    subst h; decide
  | m :: ms, x, hm, h => by
    have ht : ∀ c ∈ ms, c < 2 ^ 63 := fun c hc => hm c (List.mem_cons_of_mem _ hc)
    rcases h with h | h
    · exact Spn.lt ht h
    · have := xor_lt (Spn.lt ht h) (hm m List.mem_cons_self)
      rwa [xx] at this
def xsum (f : Nat → Nat) : Nat → Nat
  | 0 => 0
  | n + 1 => xsum f n ^^^ f n
def pick (ms : List Nat) (u : Nat) : Nat := xsum (fun k => if u.testBit k then ms.getD k 0 else 0) 63
theorem xsum_xor (f g h : Nat → Nat) : ∀ n, (∀ k, k < n → h k = f k ^^^ g k) → xsum h n = xsum f n ^^^ xsum g n
  | 0, _ => by show (0 : Nat) = 0 ^^^ 0; simp
  | n + 1, e => by
    have ih := xsum_xor f g h n fun k hk => e k (by omega)
    show xsum h n ^^^ h n = (xsum f n ^^^ f n) ^^^ (xsum g n ^^^ g n)
    rw [ih, e n (by omega)]
    rw [Nat.xor_assoc, Nat.xor_assoc]
    congr 1
    rw [← Nat.xor_assoc, ← Nat.xor_assoc, Nat.xor_comm (xsum g n) (f n)]
theorem xsum_congr {f g : Nat → Nat} : ∀ n, (∀ k, k < n → f k = g k) → xsum f n = xsum g n
  | 0, _ => rfl
  | n + 1, e => by
    show xsum f n ^^^ f n = xsum g n ^^^ g n
    rw [xsum_congr n fun k hk => e k (by omega), e n (by omega)]
theorem pick_xor (ms : List Nat) (u v : Nat) : pick ms (u ^^^ v) = pick ms u ^^^ pick ms v := by
  refine xsum_xor _ _ _ 63 fun k _ => ?_
  rw [Nat.testBit_xor]
  cases u.testBit k <;> cases v.testBit k <;> simp
theorem pick_zero (ms : List Nat) : pick ms 0 = 0 := by
  have : ∀ n, xsum (fun k => if (0 : Nat).testBit k then ms.getD k 0 else 0) n = 0 := by
    intro n
    induction n with
    | zero => rfl
    | succ n ih => show _ ^^^ _ = 0; rw [ih]; simp
  exact this 63
theorem xsum_single {c : Nat} (f : Nat → Nat) (k : Nat) (h0 : ∀ j, j ≠ k → f j = 0) (hk : f k = c) : ∀ n, xsum f n = if k < n then c else 0
  | 0 => rfl
  | n + 1 => by
    show xsum f n ^^^ f n = _
    rw [xsum_single f k h0 hk n]
    by_cases e : n = k
    · subst e; simp [hk]
    · rw [h0 n e]
      by_cases h : k < n
      · rw [if_pos h, if_pos (by omega)]; simp
      · rw [if_neg h, if_neg (by omega)]; simp
theorem pick_one (ms : List Nat) {k : Nat} (hk : k < 63) : pick ms (2 ^ k) = ms.getD k 0 := by
  unfold pick
  have h0 : ∀ j, j ≠ k → (fun j => if (2 ^ k).testBit j then ms.getD j 0 else 0) j = 0 := by
    intro j hj
    show (if (2 ^ k).testBit j = true then ms.getD j 0 else 0) = 0
    rw [Nat.testBit_two_pow_of_ne (Ne.symm hj), if_neg Bool.false_ne_true]
  have h1 : (fun j => if (2 ^ k).testBit j then ms.getD j 0 else 0) k = ms.getD k 0 := by
    show (if (2 ^ k).testBit k = true then ms.getD k 0 else 0) = _
    rw [Nat.testBit_two_pow_self, if_pos rfl]
  rw [xsum_single _ k h0 h1 63, if_pos hk]
def Below (n u : Nat) : Prop := u < 2 ^ n
theorem pick_more {ms : List Nat} {m u : Nat} (hu : u < 2 ^ ms.length) : pick (ms ++ [m]) u = pick ms u := by
  refine xsum_congr 63 fun k _ => ?_
  by_cases h : u.testBit k = true
  · have hk : k < ms.length := by
      refine Nat.lt_of_not_le fun z => ?_
      rw [Nat.testBit_lt_two_pow (Nat.lt_of_lt_of_le hu (Nat.pow_le_pow_right (by decide) z))] at h
      cases h
    rw [if_pos h, if_pos h, List.getD_eq_getElem?_getD, List.getD_eq_getElem?_getD, List.getElem?_append_left hk]
  · rw [if_neg h, if_neg h]
theorem pick_span (ms : List Nat) (u : Nat) : Spn ms (pick ms u) := by
  have : ∀ n, Spn ms (xsum (fun k => if u.testBit k then ms.getD k 0 else 0) n) := by
    intro n
    induction n with
    | zero => exact Spn.zero ms
    | succ n ih =>
      refine Spn.xor ih ?_
      show Spn ms (if u.testBit n = true then ms.getD n 0 else 0)
      by_cases h : u.testBit n = true
      · rw [if_pos h]
        by_cases hn : n < ms.length
        · rw [List.getD_eq_getElem?_getD, List.getElem?_eq_getElem hn]
          exact Spn.mem (List.getElem_mem hn)
        · rw [List.getD_eq_getElem?_getD, List.getElem?_eq_none (by omega)]
          exact Spn.zero ms
      · rw [if_neg h]
        exact Spn.zero ms
  exact this 63
end Es
namespace Es
def look (bs : List (Nat × Nat × Nat)) (h : Nat) : Option (Nat × Nat) := (bs.find? fun b => decide (b.1 = h)).map (·.2)
theorem look_mem {bs : List (Nat × Nat × Nat)} {h : Nat} {p : Nat × Nat} (e : look bs h = some p) : (h, p) ∈ bs := by
  unfold look at e
  cases q : bs.find? fun b => decide (b.1 = h) with
  | none => rw [q] at e; cases e
  | some b =>
    rw [q] at e
    have e : b.2 = p := Option.some.inj e
    have h1 := List.find?_some q
    have h2 := List.mem_of_find?_eq_some q
    have h1 : b.1 = h := of_decide_eq_true h1
    obtain ⟨x, y⟩ := b
    simp only at e h1
    subst e; subst h1
    exact h2
theorem look_none {bs : List (Nat × Nat × Nat)} {h : Nat} : look bs h = none ↔ h ∉ bs.map (·.1) := by
  unfold look
  rw [Option.map_eq_none_iff, List.find?_eq_none]
  constructor
  · intro k m
    obtain ⟨b, hb, e⟩ := List.mem_map.mp m
    exact k b hb (decide_eq_true e)
  · intro k b hb e
    exact k (List.mem_map.mpr ⟨b, hb, of_decide_eq_true e⟩)
def rest : Nat → List (Nat × Nat × Nat) → Nat → Nat → Nat × Nat
  | 0, _, m, u => (m, u)
  | n + 1, bs, m, u =>
    match low m with
    | none => (m, u)
    | some h => match look bs h with
      | none => (m, u)
      | some p => rest n bs (m ^^^ p.1) (u ^^^ p.2)
structure BasOk (ms : List Nat) (bs : List (Nat × Nat × Nat)) : Prop where
  nd : (bs.map (·.1)).Nodup
  ok : ∀ b ∈ bs, low b.2.1 = some b.1 ∧ b.2.1 < 2 ^ 63 ∧ b.2.2 < 2 ^ ms.length ∧ pick ms b.2.2 = b.2.1
  all : ∀ m ∈ ms, Spn (bs.map (·.2.1)) m
theorem ech : ∀ {bs : List (Nat × Nat × Nat)}, (bs.map (·.1)).Nodup → (∀ b ∈ bs, low b.2.1 = some b.1) → ∀ {x : Nat}, Spn (bs.map (·.2.1)) x → x = 0 ∨ ∃ h, low x = some h ∧ h ∈ bs.map (·.1)
  | [], _, _, x, h => .inl h
  | b :: bs, nd, ok, x, h => by
    have nd : (b.1 :: bs.map (·.1)).Nodup := nd
    obtain ⟨n1, n2⟩ := List.nodup_cons.mp nd
    have ok2 : ∀ c ∈ bs, low c.2.1 = some c.1 := fun c hc => ok c (List.mem_cons_of_mem _ hc)
    have hb := ok b List.mem_cons_self
    have h : Spn (bs.map (·.2.1)) x ∨ Spn (bs.map (·.2.1)) (x ^^^ b.2.1) := h
    rcases h with h | h
    · rcases ech n2 ok2 h with e | ⟨k, e, m⟩
      · exact .inl e
      · exact .inr ⟨k, e, List.mem_cons_of_mem _ m⟩
    · have back : x = (x ^^^ b.2.1) ^^^ b.2.1 := (xx _ _).symm
      rcases ech n2 ok2 h with e | ⟨k, e, m⟩
      · rw [e, Nat.zero_xor] at back
        exact .inr ⟨b.1, by rw [back]; exact hb, List.mem_cons_self⟩
      · have ne : k ≠ b.1 := fun z => n1 (z ▸ m)
        by_cases lt : k < b.1
        · exact .inr ⟨k, by rw [back]; exact low_xor e hb lt, List.mem_cons_of_mem _ m⟩
        · refine .inr ⟨b.1, ?_, List.mem_cons_self⟩
          rw [back, Nat.xor_comm]
          exact low_xor hb e (by omega)
theorem rest_spec {ms : List Nat} {bs : List (Nat × Nat × Nat)} (B : BasOk ms bs) : ∀ (n m u : Nat), m < 2 ^ 63 → (∀ h, low m = some h → 63 ≤ h + n) →
    (rest n bs m u).1 < 2 ^ 63 ∧ (∃ c, c < 2 ^ ms.length ∧ (rest n bs m u).2 = u ^^^ c ∧ (rest n bs m u).1 = m ^^^ pick ms c) ∧
      ((rest n bs m u).1 = 0 ∨ ∃ h, low (rest n bs m u).1 = some h ∧ look bs h = none)
  | 0, m, u, hm, hn => by
    refine ⟨hm, ⟨0, Nat.two_pow_pos _, by simp [rest], by rw [pick_zero]; simp [rest]⟩, .inl ?_⟩
    refine (low_none hm).mp ?_
    cases e : low m with
    | none => rfl
    | some h =>
      have := hn h e
      have := (low_iff.mp e).1
      omega
  | n + 1, m, u, hm, hn => by
    cases e : low m with
    | none =>
      have r0 : rest (n + 1) bs m u = (m, u) := by simp [rest, e]
      rw [r0]
      exact ⟨hm, ⟨0, Nat.two_pow_pos _, by simp, by rw [pick_zero]; simp⟩, .inl ((low_none hm).mp e)⟩
    | some h =>
      cases q : look bs h with
      | none =>
        have r0 : rest (n + 1) bs m u = (m, u) := by simp [rest, e, q]
        rw [r0]
        exact ⟨hm, ⟨0, Nat.two_pow_pos _, by simp, by rw [pick_zero]; simp⟩, .inr ⟨h, e, q⟩⟩
      | some p =>
        have r0 : rest (n + 1) bs m u = rest n bs (m ^^^ p.1) (u ^^^ p.2) := by simp [rest, e, q]
        obtain ⟨o1, o2, o3, o4⟩ := B.ok _ (look_mem q)
        simp only at o1 o2 o3 o4
        obtain ⟨h1, ⟨c, c1, c2, c3⟩, h3⟩ := rest_spec B n (m ^^^ p.1) (u ^^^ p.2) (xor_lt hm o2) fun k hk => by
          have := low_xor_same e o1 hk
          have := hn h e
          omega
        rw [r0]
        refine ⟨h1, ⟨p.2 ^^^ c, Nat.xor_lt_two_pow o3 c1, ?_, ?_⟩, h3⟩
        · rw [c2, Nat.xor_assoc]
        · rw [c3, pick_xor, o4, Nat.xor_assoc]
theorem rest_none {ms : List Nat} {bs : List (Nat × Nat × Nat)} (B : BasOk ms bs) {m u : Nat} (hm : m < 2 ^ 63) : Spn ms m ↔ (rest 64 bs m u).1 = 0 := by
  obtain ⟨h1, ⟨c, c1, c2, c3⟩, h3⟩ := rest_spec B 64 m u hm fun h _ => by omega
  constructor
  · intro s
    have s2 : Spn ms (rest 64 bs m u).1 := by rw [c3]; exact Spn.xor s (pick_span ms c)
    have s3 : Spn (bs.map (·.2.1)) (rest 64 bs m u).1 := Spn.sub B.all s2
    rcases h3 with e | ⟨h, e, q⟩
    · exact e
    · rcases ech B.nd (fun b hb => (B.ok b hb).1) s3 with z | ⟨k, z, mem⟩
      · exact z
      · rw [e] at z
        have z : h = k := Option.some.inj z
        subst z
        exact absurd mem (look_none.mp q)
  · intro e
    rw [e] at c3
    have : m = pick ms c := by
      have := congrArg (· ^^^ pick ms c) c3
      simp only [Nat.zero_xor] at this
      rw [xx] at this
      exact this.symm
    rw [this]
    exact pick_span ms c
abbrev Est := List (Nat × Nat × Nat) × List (Nat × Nat) × Nat
def estep (s : Est) (m : Nat) : Est :=
  match low (rest 64 s.1 m (2 ^ s.2.2)).1 with
  | some h => (s.1 ++ [(h, rest 64 s.1 m (2 ^ s.2.2))], s.2.1, s.2.2 + 1)
  | none => (s.1, s.2.1 ++ [(s.2.2, (rest 64 s.1 m (2 ^ s.2.2)).2)], s.2.2 + 1)
def elim (ms : List Nat) : Est := ms.foldl estep ([], [], 0)
theorem elim_snoc (ms : List Nat) (m : Nat) : elim (ms ++ [m]) = estep (elim ms) m := by simp [elim]
theorem elim_take (ms : List Nat) {i : Nat} (h : i < ms.length) : elim (ms.take (i + 1)) = estep (elim (ms.take i)) ms[i] := by
  rw [List.take_succ_eq_append_getElem h, elim_snoc]
structure ElimOk (ms : List Nat) (s : Est) : Prop where
  n : s.2.2 = ms.length
  bas : BasOk ms s.1
  lots : ∀ l ∈ s.2.1, l.1 < ms.length ∧ l.2 ≠ 0 ∧ l.2 < 2 ^ ms.length ∧ pick ms l.2 = 0
  keys : (s.2.1.map (·.1)).Pairwise (· < ·)
  dep : ∀ k, k < ms.length → (k ∈ s.2.1.map (·.1) ↔ Spn (ms.take k) (ms.getD k 0))
  sum : s.1.length + s.2.1.length = ms.length
theorem elim_ok : ∀ (ms : List Nat), (∀ m ∈ ms, m < 2 ^ 63) → ms.length ≤ 62 → ElimOk ms (elim ms) := by
  intro ms
  suffices h : ∀ n, ∀ ms : List Nat, ms.length = n → (∀ m ∈ ms, m < 2 ^ 63) → ms.length ≤ 62 → ElimOk ms (elim ms) from h _ ms rfl
  intro n
  induction n with
  | zero =>
    intro ms hl _ _
    have : ms = [] := List.length_eq_zero_iff.mp hl
    subst this
    exact ⟨rfl, ⟨List.nodup_nil, (fun b hb => by cases hb), (fun b hb => by cases hb)⟩, (fun b hb => by cases hb), List.Pairwise.nil, (fun k hk => by cases hk), rfl⟩
  | succ n ih =>
    intro ms hl hm h62
    have hne : ms ≠ [] := by intro z; subst z; cases hl
    obtain ⟨pre, m, rfl⟩ : ∃ pre m, ms = pre ++ [m] := ⟨ms.dropLast, ms.getLast hne, (List.dropLast_concat_getLast hne).symm⟩
    have hpl : pre.length = n := by simpa using hl
    have O := ih pre hpl (fun x hx => hm x (List.mem_append_left _ hx)) (by simp at h62; omega)
    have hmm : m < 2 ^ 63 := hm m (List.mem_append_right _ List.mem_cons_self)
    rw [elim_snoc]
    obtain ⟨o1, B, o3, o4, o5, o6⟩ := O
    obtain ⟨h1, ⟨c, c1, c2, c3⟩, h3⟩ := rest_spec B 64 m (2 ^ (elim pre).2.2) hmm fun h _ => by omega
    have dn := rest_none B (u := 2 ^ (elim pre).2.2) hmm
    have len : (pre ++ [m]).length = pre.length + 1 := by simp
    have p2 : 2 ^ pre.length < 2 ^ (pre.length + 1) := Nat.pow_lt_pow_right (by decide) (by omega)
    have c2 : (rest 64 (elim pre).1 m (2 ^ (elim pre).2.2)).2 = 2 ^ pre.length ^^^ c := c2.trans (by rw [o1])
    have usedLt : (rest 64 (elim pre).1 m (2 ^ (elim pre).2.2)).2 < 2 ^ (pre.length + 1) := by
      rw [c2]
      exact Nat.xor_lt_two_pow p2 (Nat.lt_trans c1 p2)
    have usedNe : (rest 64 (elim pre).1 m (2 ^ (elim pre).2.2)).2 ≠ 0 := by
      rw [c2]
      intro z
      have : (2 ^ pre.length ^^^ c).testBit pre.length = true := by
        rw [Nat.testBit_xor, Nat.testBit_two_pow_self, Nat.testBit_lt_two_pow c1]; rfl
      rw [z] at this
      simp at this
    have usedPick : pick (pre ++ [m]) (rest 64 (elim pre).1 m (2 ^ (elim pre).2.2)).2 = (rest 64 (elim pre).1 m (2 ^ (elim pre).2.2)).1 := by
      rw [c2, pick_xor, pick_more c1, pick_one _ (by simp at h62; omega), c3]
      congr 1
      simp [List.getD_eq_getElem?_getD]
    have depOld : ∀ k, k < pre.length → ((pre ++ [m]).take k = pre.take k ∧ (pre ++ [m]).getD k 0 = pre.getD k 0) := by
      intro k hk
      refine ⟨List.take_append_of_le_length (by omega), ?_⟩
      rw [List.getD_eq_getElem?_getD, List.getD_eq_getElem?_getD, List.getElem?_append_left hk]
    have depNew : (pre ++ [m]).take pre.length = pre ∧ (pre ++ [m]).getD pre.length 0 = m := by
      refine ⟨by simp, by simp [List.getD_eq_getElem?_getD]⟩
    cases e : low (rest 64 (elim pre).1 m (2 ^ (elim pre).2.2)).1 with
    | some h =>
      have st : estep (elim pre) m = ((elim pre).1 ++ [(h, rest 64 (elim pre).1 m (2 ^ (elim pre).2.2))], (elim pre).2.1, (elim pre).2.2 + 1) := by
        simp [estep, e]
      have nz : (rest 64 (elim pre).1 m (2 ^ (elim pre).2.2)).1 ≠ 0 := fun z => by rw [z] at e; cases e
      have fresh : look (elim pre).1 h = none := by
        rcases h3 with z | ⟨k, z, q⟩
        · exact absurd z nz
        · rw [e] at z
          have z : h = k := Option.some.inj z
          rw [z]; exact q
      have hd := look_none.mp fresh
      rw [st]
      refine ⟨by show _ = _; rw [o1, len], ⟨?_, ?_, ?_⟩, ?_, o4, ?_, ?_⟩
      · rw [List.map_append]
        refine List.nodup_append.mpr ⟨B.nd, by simp, fun a ha b hb => ?_⟩
        have hb : b = h := by simpa using hb
        subst hb
        exact fun z => hd (z ▸ ha)
      · intro b hb
        rcases List.mem_append.mp hb with hb | hb
        · obtain ⟨b1, b2, b3, b4⟩ := B.ok b hb
          exact ⟨b1, b2, by rw [len]; exact Nat.lt_trans b3 p2, by rw [pick_more b3]; exact b4⟩
        · have hb : b = (h, rest 64 (elim pre).1 m (2 ^ (elim pre).2.2)) := by simpa using hb
          subst hb
          exact ⟨e, h1, by rw [len]; exact usedLt, usedPick⟩
      · intro x hx
        rw [List.map_append]
        rcases List.mem_append.mp hx with hx | hx
        · exact Spn.left (B.all x hx)
        · have hx : x = m := by simpa using hx
          subst hx
          have a1 : Spn ((elim pre).1.map (·.2.1)) (pick pre c) := Spn.sub B.all (pick_span pre c)
          have a2 : x = (rest 64 (elim pre).1 x (2 ^ (elim pre).2.2)).1 ^^^ pick pre c := by rw [c3, xx]
          have a3 : Spn ((elim pre).1.map (·.2.1) ++ [(h, rest 64 (elim pre).1 x (2 ^ (elim pre).2.2))].map (·.2.1)) (rest 64 (elim pre).1 x (2 ^ (elim pre).2.2)).1 :=
            Spn.mem (List.mem_append_right _ (by simp))
          have a4 := Spn.xor a3 (Spn.left (bs := [(h, rest 64 (elim pre).1 x (2 ^ (elim pre).2.2))].map (·.2.1)) a1)
          rw [← a2] at a4
          exact a4
      · intro l hl2
        obtain ⟨l1, l2, l3, l4⟩ := o3 l hl2
        exact ⟨by rw [len]; omega, l2, by rw [len]; exact Nat.lt_trans l3 p2, by rw [pick_more l3]; exact l4⟩
      · intro k hk
        rw [len] at hk
        by_cases hk2 : k < pre.length
        · rw [(depOld k hk2).1, (depOld k hk2).2]
          exact o5 k hk2
        · have : k = pre.length := by omega
          subst this
          rw [depNew.1, depNew.2]
          constructor
          · intro mem
            obtain ⟨l, l1, l2⟩ := List.mem_map.mp mem
            have := (o3 l l1).1
            omega
          · intro s
            exact absurd (dn.mp s) nz
      · show ((elim pre).1 ++ _).length + _ = _
        rw [List.length_append, len]
        simp
        omega
    | none =>
      have st : estep (elim pre) m = ((elim pre).1, (elim pre).2.1 ++ [((elim pre).2.2, (rest 64 (elim pre).1 m (2 ^ (elim pre).2.2)).2)], (elim pre).2.2 + 1) := by
        simp [estep, e]
      have z0 : (rest 64 (elim pre).1 m (2 ^ (elim pre).2.2)).1 = 0 := (low_none h1).mp e
      rw [st]
      refine ⟨by show _ = _; rw [o1, len], ⟨B.nd, ?_, ?_⟩, ?_, ?_, ?_, ?_⟩
      · intro b hb
        obtain ⟨b1, b2, b3, b4⟩ := B.ok b hb
        exact ⟨b1, b2, by rw [len]; exact Nat.lt_trans b3 p2, by rw [pick_more b3]; exact b4⟩
      · intro x hx
        rcases List.mem_append.mp hx with hx | hx
        · exact B.all x hx
        · have hx : x = m := by simpa using hx
          subst hx
          exact Spn.sub B.all (dn.mpr z0)
      · intro l hl2
        rcases List.mem_append.mp hl2 with hl2 | hl2
        · obtain ⟨l1, l2, l3, l4⟩ := o3 l hl2
          exact ⟨by rw [len]; omega, l2, by rw [len]; exact Nat.lt_trans l3 p2, by rw [pick_more l3]; exact l4⟩
        · have hl2 : l = ((elim pre).2.2, (rest 64 (elim pre).1 m (2 ^ (elim pre).2.2)).2) := by simpa using hl2
          subst hl2
          exact ⟨by rw [len, o1]; omega, usedNe, by rw [len]; exact usedLt, by rw [usedPick]; exact z0⟩
      · rw [List.map_append]
        refine List.pairwise_append.mpr ⟨o4, by simp, fun a ha b hb => ?_⟩
        have hb : b = (elim pre).2.2 := by simpa using hb
        obtain ⟨l, l1, l2⟩ := List.mem_map.mp ha
        have := (o3 l l1).1
        rw [hb, o1]
        omega
      · intro k hk
        rw [len] at hk
        rw [List.map_append, List.mem_append]
        by_cases hk2 : k < pre.length
        · rw [(depOld k hk2).1, (depOld k hk2).2, ← o5 k hk2]
          constructor
          · rintro (h | h)
            · exact h
            · have : k = (elim pre).2.2 := by simpa using h
              omega
          · exact .inl
        · have : k = pre.length := by omega
          subst this
          rw [depNew.1, depNew.2]
          exact ⟨fun _ => dn.mpr z0, fun _ => .inr (by simp [o1])⟩
      · show _ + ((elim pre).2.1 ++ _).length = _
        rw [List.length_append, len]
        simp
        omega
def indep (ms : List Nat) : List Nat := (List.range ms.length).filter fun k => decide (k ∉ (elim ms).2.1.map (·.1))
def srt (l : List Nat) : List Nat := (List.range 63).filter fun u => decide (u ∈ l)
theorem mem_srt {l : List Nat} {u : Nat} : u ∈ srt l ↔ u < 63 ∧ u ∈ l := by simp [srt]
theorem srt_lt (l : List Nat) : (srt l).Pairwise (· < ·) := List.Pairwise.filter _ List.pairwise_lt_range
def lred1 (hs : List (Nat × Nat × Nat)) (p : Nat × Nat) (h : Nat) : Nat × Nat :=
  if p.1.testBit h = true then match look hs h with
    | some q => (p.1 ^^^ q.1, p.2 ^^^ q.2)
    | none => p
  else p
def lred (hs : List (Nat × Nat × Nat)) (p : Nat × Nat) : Nat × Nat := (srt (hs.map (·.1))).foldl (lred1 hs) p
def lput (hs : List (Nat × Nat × Nat)) (at_ : Nat) (p : Nat × Nat) : List (Nat × Nat × Nat) :=
  (hs.map fun e => if e.2.1.testBit at_ = true then (e.1, e.2.1 ^^^ p.1, e.2.2 ^^^ p.2) else e) ++ [(at_, p.1, p.2)]
def lstep (hs : List (Nat × Nat × Nat)) (l : Nat × Nat) : Option (List (Nat × Nat × Nat)) :=
  match low (lred hs l).1 with
  | none => if (lred hs l).2 = 1 then none else some hs
  | some a => some (lput hs a (lred hs l))
structure RedOk (hs : List (Nat × Nat × Nat)) : Prop where
  nd : (hs.map (·.1)).Nodup
  own : ∀ e ∈ hs, e.1 < 63 ∧ e.2.1 < 2 ^ 63 ∧ e.2.1.testBit e.1 = true
  oth : ∀ e ∈ hs, ∀ h ∈ hs.map (·.1), h ≠ e.1 → e.2.1.testBit h = false
theorem red_zero : ∀ {hs : List (Nat × Nat × Nat)}, (hs.map (·.1)).Nodup → (∀ e ∈ hs, e.2.1.testBit e.1 = true) → (∀ e ∈ hs, ∀ h ∈ hs.map (·.1), h ≠ e.1 → e.2.1.testBit h = false) →
    ∀ {x : Nat}, Spn (hs.map (·.2.1)) x → (∀ h ∈ hs.map (·.1), x.testBit h = false) → x = 0
  | [], _, _, _, x, s, _ => s
  | e :: hs, nd, ow, ot, x, s, no => by
    have nd : (e.1 :: hs.map (·.1)).Nodup := nd
    obtain ⟨n1, n2⟩ := List.nodup_cons.mp nd
    have s : Spn (hs.map (·.2.1)) x ∨ Spn (hs.map (·.2.1)) (x ^^^ e.2.1) := s
    have rec_ := @red_zero hs n2 (fun c hc => ow c (List.mem_cons_of_mem _ hc)) (fun c hc h hh => ot c (List.mem_cons_of_mem _ hc) h (List.mem_cons_of_mem _ hh))
    rcases s with s | s
    · exact rec_ s fun h hh => no h (List.mem_cons_of_mem _ hh)
    · have b0 : (x ^^^ e.2.1).testBit e.1 = false := Spn.bits0 (fun m hm => by
        obtain ⟨c, hc, rfl⟩ := List.mem_map.mp hm
        refine ot c (List.mem_cons_of_mem _ hc) e.1 List.mem_cons_self fun z => ?_
        exact n1 (z ▸ List.mem_map.mpr ⟨c, hc, rfl⟩)) s
      rw [Nat.testBit_xor, ow e List.mem_cons_self, no e.1 List.mem_cons_self] at b0
      cases b0
theorem lred_fold {hs : List (Nat × Nat × Nat)} (R : RedOk hs) : ∀ (S : List Nat) (dn : List Nat) (p : Nat × Nat), (∀ h ∈ S, h ∈ hs.map (·.1)) → (∀ h ∈ dn, h ∈ hs.map (·.1)) → p.1 < 2 ^ 63 → (∀ h ∈ dn, p.1.testBit h = false) →
    (S.foldl (lred1 hs) p).1 < 2 ^ 63 ∧ (∃ y, Spn (hs.map (·.2.1)) y ∧ (S.foldl (lred1 hs) p).1 = p.1 ^^^ y) ∧ (∀ h, h ∈ dn ∨ h ∈ S → (S.foldl (lred1 hs) p).1.testBit h = false)
  | [], dn, p, _, _, hp, hd => ⟨hp, ⟨0, Spn.zero _, by simp⟩, fun h hh => by
      rcases hh with hh | hh
      · exact hd h hh
      · cases hh⟩
  | k :: S, dn, p, hS, hD, hp, hd => by
    have hk := hS k List.mem_cons_self
    obtain ⟨e, he, ek⟩ := List.mem_map.mp hk
    have step : ∃ y, Spn (hs.map (·.2.1)) y ∧ (lred1 hs p k).1 = p.1 ^^^ y ∧ (lred1 hs p k).1 < 2 ^ 63 ∧ (lred1 hs p k).1.testBit k = false ∧ ∀ h ∈ dn, (lred1 hs p k).1.testBit h = false := by
      unfold lred1
      by_cases hb : p.1.testBit k = true
      · rw [if_pos hb]
        cases q : look hs k with
        | none => exact absurd hk (look_none.mp q)
        | some r =>
          have mem := look_mem q
          obtain ⟨w1, w2, w3⟩ := R.own _ mem
          simp only at w1 w2 w3
          refine ⟨r.1, Spn.mem (List.mem_map.mpr ⟨_, mem, rfl⟩), rfl, xor_lt hp w2, ?_, fun h hh => ?_⟩
          · show (p.1 ^^^ r.1).testBit k = false
            rw [Nat.testBit_xor, hb, w3]; rfl
          · show (p.1 ^^^ r.1).testBit h = false
            rw [Nat.testBit_xor, hd h hh]
            by_cases z : h = k
            · subst z
              rw [hd h hh] at hb; cases hb
            · rw [R.oth _ mem h (hD h hh) z]; rfl
      · rw [if_neg hb]
        exact ⟨0, Spn.zero _, by simp, hp, by simpa using hb, hd⟩
    obtain ⟨y, y1, y2, y3, y4, y5⟩ := step
    obtain ⟨f1, ⟨z, z1, z2⟩, f3⟩ := lred_fold R S (k :: dn) (lred1 hs p k) (fun h hh => hS h (List.mem_cons_of_mem _ hh)) (fun h hh => by
      rcases List.mem_cons.mp hh with e | e
      · subst e; exact hk
      · exact hD h e) y3 (fun h hh => by
      rcases List.mem_cons.mp hh with e | e
      · subst e; exact y4
      · exact y5 h e)
    refine ⟨f1, ⟨y ^^^ z, Spn.xor y1 z1, ?_⟩, fun h hh => f3 h ?_⟩
    · show (S.foldl (lred1 hs) (lred1 hs p k)).1 = _
      rw [z2, y2, Nat.xor_assoc]
    · rcases hh with hh | hh
      · exact .inl (List.mem_cons_of_mem _ hh)
      · rcases List.mem_cons.mp hh with e | e
        · subst e; exact .inl List.mem_cons_self
        · exact .inr e
theorem lred_spec {hs : List (Nat × Nat × Nat)} (R : RedOk hs) {p : Nat × Nat} (hp : p.1 < 2 ^ 63) :
    (lred hs p).1 < 2 ^ 63 ∧ (∃ y, Spn (hs.map (·.2.1)) y ∧ (lred hs p).1 = p.1 ^^^ y) ∧ ∀ h ∈ hs.map (·.1), (lred hs p).1.testBit h = false := by
  obtain ⟨a, b, c⟩ := lred_fold R (srt (hs.map (·.1))) [] p (fun h hh => (mem_srt.mp hh).2) (fun h hh => by cases hh) hp (fun h hh => by cases hh)
  refine ⟨a, b, fun h hh => c h (.inr (mem_srt.mpr ⟨?_, hh⟩))⟩
  obtain ⟨e, he, z⟩ := List.mem_map.mp hh
  have := (R.own e he).1
  rw [← z]; exact this
theorem lput_ok {hs : List (Nat × Nat × Nat)} (R : RedOk hs) {p : Nat × Nat} {a : Nat} (hp : p.1 < 2 ^ 63) (hl : low p.1 = some a) (no : ∀ h ∈ hs.map (·.1), p.1.testBit h = false) :
    RedOk (lput hs a p) ∧ (lput hs a p).map (·.1) = hs.map (·.1) ++ [a] ∧ (∀ x, Spn ((lput hs a p).map (·.2.1)) x ↔ Spn (hs.map (·.2.1) ++ [p.1]) x) := by
  obtain ⟨a1, a2, a3⟩ := low_iff.mp hl
  have hm : (lput hs a p).map (·.1) = hs.map (·.1) ++ [a] := by
    unfold lput
    rw [List.map_append, List.map_map]
    congr 1
    refine List.map_congr_left fun e _ => ?_
    show (if _ then _ else _ : Nat × Nat × Nat).1 = e.1
    split <;> rfl
  have na : a ∉ hs.map (·.1) := fun z => by rw [no a z] at a2; cases a2
  have each : ∀ e ∈ lput hs a p, (e = (a, p.1, p.2)) ∨ ∃ e0 ∈ hs, e.1 = e0.1 ∧ ((e0.2.1.testBit a = true ∧ e.2.1 = e0.2.1 ^^^ p.1) ∨ (e0.2.1.testBit a = false ∧ e.2.1 = e0.2.1)) := by
    intro e he
    rcases List.mem_append.mp he with he | he
    · obtain ⟨e0, h0, rfl⟩ := List.mem_map.mp he
      refine .inr ⟨e0, h0, ?_⟩
      by_cases hb : e0.2.1.testBit a = true
      · rw [if_pos hb]; exact ⟨rfl, .inl ⟨hb, rfl⟩⟩
      · rw [if_neg hb]; exact ⟨rfl, .inr ⟨by simpa using hb, rfl⟩⟩
    · exact .inl (by simpa using he)
  refine ⟨⟨?_, ?_, ?_⟩, hm, ?_⟩
  · rw [hm]
    refine List.nodup_append.mpr ⟨R.nd, by simp, fun x hx y hy => ?_⟩
    have hy : y = a := by simpa using hy
    subst hy
    exact fun z => na (z ▸ hx)
  · intro e he
    rcases each e he with rfl | ⟨e0, h0, e1, e2⟩
    · exact ⟨a1, hp, a2⟩
    · obtain ⟨w1, w2, w3⟩ := R.own e0 h0
      have hh : e0.1 ∈ hs.map (·.1) := List.mem_map.mpr ⟨e0, h0, rfl⟩
      rcases e2 with ⟨_, e2⟩ | ⟨_, e2⟩
      · refine ⟨by rw [e1]; exact w1, by rw [e2]; exact xor_lt w2 hp, ?_⟩
        rw [e1, e2, Nat.testBit_xor, w3, no _ hh]; rfl
      · exact ⟨by rw [e1]; exact w1, by rw [e2]; exact w2, by rw [e1, e2]; exact w3⟩
  · intro e he h hh ne
    rw [hm] at hh
    rcases each e he with rfl | ⟨e0, h0, e1, e2⟩
    · rcases List.mem_append.mp hh with hh | hh
      · exact no h hh
      · exact absurd (by simpa using hh) ne
    · rcases List.mem_append.mp hh with hh | hh
      · have o := R.oth e0 h0 h hh (e1 ▸ ne)
        rcases e2 with ⟨_, e2⟩ | ⟨_, e2⟩
        · rw [e2, Nat.testBit_xor, o, no h hh]; rfl
        · rw [e2]; exact o
      · have hh : h = a := by simpa using hh
        subst hh
        rcases e2 with ⟨b, e2⟩ | ⟨b, e2⟩
        · rw [e2, Nat.testBit_xor, b, a2]; rfl
        · rw [e2]; exact b
  · intro x
    have pm : Spn ((lput hs a p).map (·.2.1)) p.1 := Spn.mem (List.mem_map.mpr ⟨(a, p.1, p.2), List.mem_append_right _ (by simp), rfl⟩)
    constructor
    · refine Spn.sub fun y hy => ?_
      obtain ⟨e, he, rfl⟩ := List.mem_map.mp hy
      have p2 : Spn (hs.map (·.2.1) ++ [p.1]) p.1 := Spn.mem (List.mem_append_right _ (by simp))
      rcases each e he with rfl | ⟨e0, h0, e1, e2⟩
      · exact p2
      · have o : Spn (hs.map (·.2.1) ++ [p.1]) e0.2.1 := Spn.mem (List.mem_append_left _ (List.mem_map.mpr ⟨e0, h0, rfl⟩))
        rcases e2 with ⟨_, e2⟩ | ⟨_, e2⟩
        · rw [e2]; exact Spn.xor o p2
        · rw [e2]; exact o
    · refine Spn.sub fun y hy => ?_
      rcases List.mem_append.mp hy with hy | hy
      · obtain ⟨e0, h0, rfl⟩ := List.mem_map.mp hy
        by_cases hb : e0.2.1.testBit a = true
        · have : Spn ((lput hs a p).map (·.2.1)) (e0.2.1 ^^^ p.1) := Spn.mem (List.mem_map.mpr ⟨(e0.1, e0.2.1 ^^^ p.1, e0.2.2 ^^^ p.2), List.mem_append_left _ (List.mem_map.mpr ⟨e0, h0, by rw [if_pos hb]⟩), rfl⟩)
          have := Spn.xor this pm
          rwa [xx] at this
        · exact Spn.mem (List.mem_map.mpr ⟨e0, List.mem_append_left _ (List.mem_map.mpr ⟨e0, h0, by rw [if_neg hb]⟩), rfl⟩)
      · have hy : y = p.1 := by simpa using hy
        rw [hy]; exact pm
def lflat (ls : List (Nat × Nat)) : Option (List (Nat × Nat × Nat)) := ls.foldl (fun o l => o.bind fun hs => lstep hs l) (some [])
theorem lflat_snoc (ls : List (Nat × Nat)) (l : Nat × Nat) : lflat (ls ++ [l]) = (lflat ls).bind fun hs => lstep hs l := by simp [lflat]
def zeroB (ms : List Nat) : List (Nat × Nat) := ms.map fun m => (m, 0)
theorem lred1_bit {hs : List (Nat × Nat × Nat)} (h0 : ∀ e ∈ hs, e.2.2 = 0) {p : Nat × Nat} (hp : p.2 = 0) (h : Nat) : (lred1 hs p h).2 = 0 := by
  unfold lred1
  split
  · split
    · next q e =>
      have := h0 _ (look_mem e)
      simp only at this
      show p.2 ^^^ q.2 = 0
      rw [hp, this]; rfl
    · exact hp
  · exact hp
theorem lred_bit {hs : List (Nat × Nat × Nat)} (h0 : ∀ e ∈ hs, e.2.2 = 0) {p : Nat × Nat} (hp : p.2 = 0) : (lred hs p).2 = 0 := by
  unfold lred
  generalize srt (hs.map (·.1)) = S
  induction S generalizing p with
  | nil => exact hp
  | cons k S ih => exact ih (lred1_bit h0 hp k)
theorem lflat_rows : ∀ (ms : List Nat), (∀ m ∈ ms, m < 2 ^ 63) → ∃ hs, lflat (zeroB ms) = some hs ∧ RedOk hs ∧ (∀ e ∈ hs, e.2.2 = 0) ∧ (∀ x, Spn (hs.map (·.2.1)) x ↔ Spn ms x) := by
  intro ms
  suffices h : ∀ n, ∀ ms : List Nat, ms.length = n → (∀ m ∈ ms, m < 2 ^ 63) → ∃ hs, lflat (zeroB ms) = some hs ∧ RedOk hs ∧ (∀ e ∈ hs, e.2.2 = 0) ∧ (∀ x, Spn (hs.map (·.2.1)) x ↔ Spn ms x) from h _ ms rfl
  intro n
  induction n with
  | zero =>
    intro ms hl _
    have : ms = [] := List.length_eq_zero_iff.mp hl
    subst this
    exact ⟨[], rfl, ⟨List.nodup_nil, (fun e he => by cases he), (fun e he => by cases he)⟩, (fun e he => by cases he), fun x => Iff.rfl⟩
  | succ n ih =>
    intro ms hl hm
    have hne : ms ≠ [] := by intro z; subst z; cases hl
    obtain ⟨pre, m, rfl⟩ : ∃ pre m, ms = pre ++ [m] := ⟨ms.dropLast, ms.getLast hne, (List.dropLast_concat_getLast hne).symm⟩
    obtain ⟨hs, f1, R, f3, f4⟩ := ih pre (by simpa using hl) fun x hx => hm x (List.mem_append_left _ hx)
    have hmm : m < 2 ^ 63 := hm m (List.mem_append_right _ List.mem_cons_self)
    have sn : lflat (zeroB (pre ++ [m])) = lstep hs (m, 0) := by
      unfold zeroB at f1 ⊢
      rw [List.map_append]
      show lflat (pre.map (fun m => (m, 0)) ++ [(m, 0)]) = _
      rw [lflat_snoc, f1]
      rfl
    have b0 : (lred hs (m, 0)).2 = 0 := lred_bit f3 rfl
    obtain ⟨l1, ⟨y, y1, y2⟩, l3⟩ := lred_spec R (p := (m, 0)) hmm
    have y2 : (lred hs (m, 0)).1 = m ^^^ y := y2
    rw [sn]
    unfold lstep
    cases e : low (lred hs (m, 0)).1 with
    | none =>
      have z0 := (low_none l1).mp e
      refine ⟨hs, by simp [b0], R, f3, fun x => ?_⟩
      rw [f4]
      constructor
      · exact Spn.left
      · refine Spn.sub fun a ha => ?_
        rcases List.mem_append.mp ha with ha | ha
        · exact Spn.mem ha
        · have ha : a = m := by simpa using ha
          subst ha
          have : a = y := by
            rw [z0] at y2
            have := congrArg (· ^^^ y) y2
            simp only [Nat.zero_xor] at this
            rw [xx] at this
            exact this.symm
          rw [this]
          exact (f4 y).mp y1
    | some a =>
      obtain ⟨g1, g2, g3⟩ := lput_ok R l1 e l3
      refine ⟨lput hs a (lred hs (m, 0)), rfl, g1, ?_, fun x => ?_⟩
      · intro e he
        rcases List.mem_append.mp he with he | he
        · obtain ⟨e0, h0, rfl⟩ := List.mem_map.mp he
          by_cases hb : e0.2.1.testBit a = true
          · rw [if_pos hb]
            show e0.2.2 ^^^ (lred hs (m, 0)).2 = 0
            rw [b0, f3 e0 h0]; rfl
          · rw [if_neg hb]; exact f3 e0 h0
        · have he : e = (a, (lred hs (m, 0)).1, (lred hs (m, 0)).2) := by simpa using he
          rw [he]; exact b0
      · rw [g3]
        have yp : Spn pre y := (f4 y).mp y1
        constructor
        · refine Spn.sub fun z hz => ?_
          rcases List.mem_append.mp hz with hz | hz
          · exact Spn.left ((f4 z).mp (Spn.mem hz))
          · have hz : z = (lred hs (m, 0)).1 := by simpa using hz
            rw [hz, y2]
            exact Spn.xor (Spn.mem (List.mem_append_right _ (by simp))) (Spn.left yp)
        · refine Spn.sub fun z hz => ?_
          rcases List.mem_append.mp hz with hz | hz
          · exact Spn.left ((f4 z).mpr (Spn.mem hz))
          · have hz : z = m := by simpa using hz
            have a1 : Spn (hs.map (·.2.1) ++ [(lred hs (m, 0)).1]) (lred hs (m, 0)).1 := Spn.mem (List.mem_append_right _ (by simp))
            have a2 := Spn.xor a1 (Spn.left (bs := [(lred hs (m, 0)).1]) y1)
            rw [y2, xx] at a2
            rw [hz, y2]; exact a2
def lrank (ms : List Nat) : Nat := ((lflat (zeroB ms)).getD []).length
theorem lrank_nil : lrank [] = 0 := rfl
theorem lrank_snoc {ms : List Nat} {m : Nat} (hm : ∀ x ∈ ms, x < 2 ^ 63) (hmm : m < 2 ^ 63) :
    (Spn ms m → lrank (ms ++ [m]) = lrank ms) ∧ (¬ Spn ms m → lrank (ms ++ [m]) = lrank ms + 1) := by
  obtain ⟨hs, f1, R, f3, f4⟩ := lflat_rows ms hm
  have sn : lflat (zeroB (ms ++ [m])) = lstep hs (m, 0) := by
    unfold zeroB at f1 ⊢
    rw [List.map_append]
    show lflat (ms.map (fun m => (m, 0)) ++ [(m, 0)]) = _
    rw [lflat_snoc, f1]
    rfl
  have b0 : (lred hs (m, 0)).2 = 0 := lred_bit f3 rfl
  obtain ⟨l1, ⟨y, y1, y2⟩, l3⟩ := lred_spec R (p := (m, 0)) hmm
  have y2 : (lred hs (m, 0)).1 = m ^^^ y := y2
  have l0 : lrank ms = hs.length := by unfold lrank; rw [f1]; rfl
  unfold lrank at l0 ⊢
  rw [sn]
  unfold lstep
  cases e : low (lred hs (m, 0)).1 with
  | none =>
    have z0 := (low_none l1).mp e
    have my : m = y := by
      rw [z0] at y2
      have := congrArg (· ^^^ y) y2
      simp only [Nat.zero_xor] at this
      rw [xx] at this
      exact this.symm
    refine ⟨fun _ => ?_, fun n => absurd ((f4 m).mp (my ▸ y1)) n⟩
    simp only [b0]
    rw [l0]; rfl
  | some a =>
    refine ⟨fun s => ?_, fun _ => ?_⟩
    · exfalso
      have : (lred hs (m, 0)).1 = 0 := red_zero R.nd (fun e he => (R.own e he).2.2) R.oth (by rw [y2]; exact Spn.xor ((f4 m).mpr s) y1) l3
      rw [this] at e
      cases e
    · show (lput hs a _).length = _
      unfold lput
      rw [List.length_append, List.length_map, l0]
      rfl
end Es
namespace Es
theorem lt_take {ms : List Nat} (h : ∀ x ∈ ms, x < 2 ^ 63) (k : Nat) : ∀ x ∈ ms.take k, x < 2 ^ 63 := fun x hx => h x (List.mem_of_mem_take hx)
theorem getD_lt {ms : List Nat} (h : ∀ x ∈ ms, x < 2 ^ 63) (k : Nat) : ms.getD k 0 < 2 ^ 63 := by
  rw [List.getD_eq_getElem?_getD]
  by_cases hk : k < ms.length
  · rw [List.getElem?_eq_getElem hk]; exact h _ (List.getElem_mem hk)
  · rw [List.getElem?_eq_none (by omega)]; decide
theorem take_snoc {ms : List Nat} {k : Nat} (hk : k < ms.length) : ms.take (k + 1) = ms.take k ++ [ms.getD k 0] := by
  rw [List.take_succ_eq_append_getElem hk, List.getD_eq_getElem?_getD, List.getElem?_eq_getElem hk]
  rfl
theorem rank_grows {ms : List Nat} (hm : ∀ x ∈ ms, x < 2 ^ 63) (hl : ms.length ≤ 62) {k : Nat} (hk : k < ms.length) :
    lrank (ms.take (k + 1)) = lrank (ms.take k) + (if k ∈ (elim ms).2.1.map (·.1) then 0 else 1) := by
  have O := elim_ok ms hm hl
  obtain ⟨a, b⟩ := lrank_snoc (lt_take hm k) (getD_lt hm k)
  rw [take_snoc hk]
  by_cases h : k ∈ (elim ms).2.1.map (·.1)
  · rw [if_pos h, a ((O.dep k hk).mp h), Nat.add_zero]
  · rw [if_neg h, b fun s => h ((O.dep k hk).mpr s)]
theorem lrank_count {ms : List Nat} (hm : ∀ x ∈ ms, x < 2 ^ 63) (hl : ms.length ≤ 62) : ∀ n, n ≤ ms.length →
    lrank (ms.take n) = ((List.range n).filter fun k => decide (k ∉ (elim ms).2.1.map (·.1))).length
  | 0, _ => by simp [lrank_nil]
  | n + 1, h => by
    rw [rank_grows hm hl (by omega), lrank_count hm hl n (by omega), List.range_succ, List.filter_append, List.length_append]
    congr 1
    by_cases q : n ∈ (elim ms).2.1.map (·.1)
    · rw [if_pos q, List.filter_cons, if_neg (by simp only [decide_eq_true_eq]; exact fun z => z q)]; rfl
    · rw [if_neg q, List.filter_cons, if_pos (by simp only [decide_eq_true_eq]; exact q)]; rfl
theorem lrank_indep {ms : List Nat} (hm : ∀ x ∈ ms, x < 2 ^ 63) (hl : ms.length ≤ 62) : lrank ms = (indep ms).length := by
  have := lrank_count hm hl ms.length (Nat.le_refl _)
  rwa [List.take_length] at this
theorem indep_all {ms : List Nat} (hm : ∀ x ∈ ms, x < 2 ^ 63) (hl : ms.length ≤ 62) (h : (elim ms).2.1 = []) : lrank ms = ms.length := by
  rw [lrank_indep hm hl]
  unfold indep
  rw [h, List.filter_eq_self.mpr fun a _ => by simp, List.length_range]
end Es
set_option Elab.async false
set_option linter.all false
set_option maxRecDepth 100000
set_option maxHeartbeats 4000000
namespace Es
open PySem PySem.Spec PyProof.Rows L2
def But (b : Addr) (H H' : Hp) : Prop := ∀ a o, a ≠ b → H a = some o → H' a = some o
theorem But.refl (b : Addr) (H : Hp) : But b H H := fun _ _ _ h => h
theorem But.trans {b : Addr} {H H1 H2 : Hp} (h : But b H H1) (k : But b H1 H2) : But b H H2 := fun a o n e => k a o n (h a o n e)
theorem But.same {b : Addr} {H H' : Hp} (h : Same H H') : But b H H' := fun a o _ e => h a o e
theorem same_new {H : Hp} {p : Addr} {o : HO} (h : H p = none) : Same H (upd H p o) := fun b x e => by
  rw [upd_ne (ne_of_none e h)]
  exact e
theorem But.new {b : Addr} {H : Hp} {p : Addr} {o : HO} (h : H p = none) : But b H (upd H p o) := But.same (same_new h)
theorem But.at_ {b : Addr} {H : Hp} {o : HO} : But b H (upd H b o) := fun a x n e => by
  rw [upd_ne n]
  exact e
theorem same_mut {H H' : Hp} {p : Addr} {o : HO} (s : Same H H') (h : H p = none) : Same H (upd H' p o) := fun b x e => by
  rw [upd_ne (ne_of_none e h)]
  exact s b x e
theorem sqT_same {K : PySem.W.Frag} {H H' : Hp} {a : Addr} {xs : List V} (s : Same H H') (h : SqT K H a xs) : SqT K H' a xs := by
  rcases h with (h | ⟨o, h⟩) | h
  · exact .inl (.inl (s _ _ h))
  · exact .inl (.inr ⟨o, s _ _ h⟩)
  · exact .inr h
theorem sqT_but {K : PySem.W.Frag} {H H' : Hp} {a b : Addr} {xs ys : List V} (hb : H b = some (.lst ys)) (s : But b H H') (h : SqT K H a xs) : SqT K H' a xs := by
  rcases h with (h | ⟨o, h⟩) | h
  · exact .inl (.inl (s _ _ (ne_of h hb (by intro z; cases z)) h))
  · exact .inl (.inr ⟨o, s _ _ (ne_of h hb (by intro z; cases z)) h⟩)
  · exact .inr h
def iv (l : List Nat) : List V := l.map fun (n : Nat) => V.int (n : Int)
theorem iv_len (l : List Nat) : (iv l).length = l.length := by simp [iv]
theorem iv_get {l : List Nat} {i : Nat} {x : V} (h : (iv l)[i]? = some x) : ∃ n, l[i]? = some n ∧ x = .int (n : Int) := by
  unfold iv at h
  rw [List.getElem?_map] at h
  cases e : l[i]? with
  | none => rw [e] at h; cases h
  | some n => rw [e] at h; exact ⟨n, rfl, (Option.some.inj h).symm⟩
def SumV (K : PySem.W.Frag) (H : Hp) (v : V) (m : Nat) : Prop := ∃ a, v = .ref a ∧ SqT K H a (iv (bts m))
theorem SumV.same {K : PySem.W.Frag} {H H' : Hp} {v : V} {m : Nat} (s : Same H H') (h : SumV K H v m) : SumV K H' v m := by
  obtain ⟨a, e, h⟩ := h
  exact ⟨a, e, sqT_same s h⟩
theorem SumV.but {K : PySem.W.Frag} {H H' : Hp} {v : V} {m : Nat} {b : Addr} {ys : List V} (hb : H b = some (.lst ys)) (s : But b H H') (h : SumV K H v m) : SumV K H' v m := by
  obtain ⟨a, e, h⟩ := h
  exact ⟨a, e, sqT_but hb s h⟩
theorem Paired.get {α β : Type} {R : α → β → Prop} : ∀ {xs : List α} {ys : List β} {i : Nat} {x : α}, Paired R xs ys → xs[i]? = some x → ∃ y, ys[i]? = some y ∧ R x y
  | _, _, i, x, .nil, h => by simp at h
  | _, _, 0, x, .cons r _, h => by
    have h := Option.some.inj h
    subst h
    exact ⟨_, rfl, r⟩
  | _, _, i + 1, x, .cons _ t, h => Paired.get (i := i) t (by simpa using h)
theorem Paired.mono2 {α β : Type} {R S : α → β → Prop} (f : ∀ a b, R a b → S a b) : ∀ {xs : List α} {ys : List β}, Paired R xs ys → Paired S xs ys
  | _, _, .nil => .nil
  | _, _, .cons r t => .cons (f _ _ r) (Paired.mono2 f t)
theorem Paired.len {α β : Type} {R : α → β → Prop} : ∀ {xs : List α} {ys : List β}, Paired R xs ys → xs.length = ys.length
  | _, _, .nil => rfl
  | _, _, .cons _ t => congrArg (· + 1) (Paired.len t)
theorem sums_same {K : PySem.W.Frag} {H H' : Hp} {us : List V} {ms : List Nat} (s : Same H H') (h : Paired (SumV K H) us ms) : Paired (SumV K H') us ms := Paired.mono2 (fun _ _ => SumV.same s) h
theorem sums_but {K : PySem.W.Frag} {H H' : Hp} {us : List V} {ms : List Nat} {b : Addr} {ys : List V} (hb : H b = some (.lst ys)) (s : But b H H') (h : Paired (SumV K H) us ms) : Paired (SumV K H') us ms := Paired.mono2 (fun _ _ => SumV.but hb s) h
def DictM (kvs : List (Key × V)) (m : Nat) : Prop := ∃ ks : List Nat, kvs = ks.map (fun (u : Nat) => ((Sum.inl (u : Int) : Key), V.bl true)) ∧ ks.Nodup ∧ ∀ u, u ∈ ks ↔ u < 63 ∧ m.testBit u = true
theorem dictM_nil : DictM [] 0 := ⟨[], rfl, List.nodup_nil, fun u => by simp⟩
theorem key_inj {a b : Nat} (h : (Sum.inl (a : Int) : Key) = Sum.inl (b : Int)) : a = b := by
  have h := Sum.inl.inj h
  omega
theorem dictM_val {kvs : List (Key × V)} {m u : Nat} (h : DictM kvs m) (hu : u < 63) : (valV kvs (Sum.inl (u : Int) : Key)).isSome = m.testBit u := by
  obtain ⟨ks, rfl, nd, hk⟩ := h
  rw [← valV_any]
  cases e : m.testBit u with
  | true =>
    refine List.any_eq_true.mpr ⟨(Sum.inl (u : Int), V.bl true), List.mem_map.mpr ⟨u, (hk u).mpr ⟨hu, e⟩, rfl⟩, by simp⟩
  | false =>
    rw [List.any_eq_false]
    intro x hx
    obtain ⟨v, hv, rfl⟩ := List.mem_map.mp hx
    simp only [decide_eq_true_eq]
    intro z
    have z := key_inj z
    subst z
    rw [((hk v).mp hv).2] at e
    cases e
theorem bit_toggle {m u v : Nat} : (m ^^^ 2 ^ u).testBit v = (if v = u then !m.testBit v else m.testBit v) := by
  rw [Nat.testBit_xor]
  by_cases e : v = u
  · subst e
    rw [if_pos rfl, Nat.testBit_two_pow_self]
    cases m.testBit v <;> rfl
  · rw [if_neg e, Nat.testBit_two_pow_of_ne (Ne.symm e)]
    cases m.testBit v <;> rfl
theorem dictM_drop {kvs : List (Key × V)} {m u : Nat} (h : DictM kvs m) (hb : m.testBit u = true) : DictM (dropK kvs (Sum.inl (u : Int) : Key)) (m ^^^ 2 ^ u) := by
  obtain ⟨ks, rfl, nd, hk⟩ := h
  refine ⟨ks.filter (fun v => decide (v ≠ u)), ?_, nd.filter _, fun v => ?_⟩
  · unfold dropK
    rw [List.filter_map]
    congr 1
    refine List.filter_congr fun v _ => ?_
    show decide ((Sum.inl (v : Int) : Key) ≠ Sum.inl (u : Int)) = decide (v ≠ u)
    by_cases e : v = u
    · subst e; simp
    · rw [decide_eq_true e]
      exact decide_eq_true fun z => e (key_inj z)
  · rw [List.mem_filter, hk, bit_toggle, decide_eq_true_eq]
    by_cases e : v = u
    · subst e
      rw [if_pos rfl, hb]
      simp
    · rw [if_neg e]
      exact ⟨fun x => x.1, fun x => ⟨x, e⟩⟩
theorem dictM_put {kvs : List (Key × V)} {m u : Nat} (h : DictM kvs m) (hu : u < 63) (hb : m.testBit u = false) : DictM (putK kvs (Sum.inl (u : Int) : Key) (.bl true)) (m ^^^ 2 ^ u) := by
  have hv := dictM_val h hu
  rw [hb] at hv
  have hn : valV kvs (Sum.inl (u : Int) : Key) = none := by
    cases e : valV kvs (Sum.inl (u : Int) : Key) with
    | none => rfl
    | some x => rw [e] at hv; cases hv
  rw [putK_new _ hn]
  obtain ⟨ks, rfl, nd, hk⟩ := h
  have nu : u ∉ ks := fun z => by rw [((hk u).mp z).2] at hb; cases hb
  refine ⟨ks ++ [u], by simp, ?_, fun v => ?_⟩
  · refine List.nodup_append.mpr ⟨nd, by simp, fun a ha b hb' => ?_⟩
    have hb' : b = u := by simpa using hb'
    subst hb'
    exact fun z => nu (z ▸ ha)
  · rw [List.mem_append, hk, bit_toggle]
    by_cases e : v = u
    · subst e
      rw [if_pos rfl, hb]
      simp [hu]
    · rw [if_neg e]
      simp [e]
theorem dictM_len {kvs : List (Key × V)} {m : Nat} (h : DictM kvs m) : kvs.length ≤ 63 := by
  obtain ⟨ks, rfl, nd, hk⟩ := h
  rw [List.length_map]
  have : ks.Perm (bts m) := (List.perm_ext_iff_of_nodup nd ((bts_lt m).imp fun h => Nat.ne_of_lt h)).mpr fun u => by rw [hk, mem_bts]
  rw [this.length_eq]
  exact bts_len m
theorem dictM_keys {kvs : List (Key × V)} {m : Nat} (h : DictM kvs m) : ∃ ks : List Int, kvs.map (·.1) = ks.map Sum.inl ∧ ks.length < 64 ∧ ∀ ys : List Int, ys.Perm ks → ys.Pairwise (· ≤ ·) → ys.map V.int = iv (bts m) := by
  have hl := dictM_len h
  obtain ⟨ks, rfl, nd, hk⟩ := h
  refine ⟨ks.map Int.ofNat, by simp [List.map_map, Function.comp_def], by simp at hl ⊢; omega, fun ys hp hs => ?_⟩
  have hy : ∀ y ∈ ys, ∃ u : Nat, y = Int.ofNat u := fun y m => by
    have := hp.mem_iff.mp m
    obtain ⟨u, _, e⟩ := List.mem_map.mp this
    exact ⟨u, e.symm⟩
  have ey : ys = (ys.map Int.toNat).map Int.ofNat := by
    rw [List.map_map]
    conv => lhs; rw [← List.map_id ys]
    refine List.map_congr_left fun y m => ?_
    obtain ⟨u, rfl⟩ := hy y m
    rfl
  have hnd : ys.Nodup := hp.nodup_iff.mpr (List.Pairwise.map _ (fun a b h e => h (Int.ofNat.inj e)) nd)
  have hlt : (ys.map Int.toNat).Pairwise (· < ·) := by
    rw [List.pairwise_map]
    refine (hs.and hnd).imp_of_mem ?_
    intro a b ha hb hab
    obtain ⟨u, rfl⟩ := hy a ha
    obtain ⟨v, rfl⟩ := hy b hb
    obtain ⟨h1, h2⟩ := hab
    have : u ≤ v := by simpa using h1
    have : u ≠ v := fun z => h2 (by rw [z])
    show u < v
    omega
  have hmem : ∀ u, u ∈ ys.map Int.toNat ↔ u < 63 ∧ m.testBit u = true := fun u => by
    rw [← hk]
    constructor
    · intro h
      obtain ⟨y, hy1, e⟩ := List.mem_map.mp h
      obtain ⟨v, hv, e2⟩ := List.mem_map.mp (hp.mem_iff.mp hy1)
      subst e2
      have e : v = u := e
      rw [← e]
      exact hv
    · intro h
      exact List.mem_map.mpr ⟨Int.ofNat u, hp.mem_iff.mpr (List.mem_map.mpr ⟨u, h, rfl⟩), rfl⟩
  have e := bts_of hlt hmem
  rw [ey, ← e]
  unfold iv
  rw [List.map_map]
  rfl
def xall (ms : List Nat) : Nat := ms.foldl (· ^^^ ·) 0
theorem xall_nil : xall [] = 0 := rfl
theorem xall_snoc (ms : List Nat) (m : Nat) : xall (ms ++ [m]) = xall ms ^^^ m := by simp [xall]
theorem xall_take {ms : List Nat} {i : Nat} {m : Nat} (h : ms[i]? = some m) : xall (ms.take (i + 1)) = xall (ms.take i) ^^^ m := by
  obtain ⟨hi, e⟩ := List.getElem?_eq_some_iff.mp h
  rw [List.take_succ_eq_append_getElem hi, e, xall_snoc]
theorem xall_lt {ms : List Nat} (h : ∀ m ∈ ms, m < 2 ^ 63) : xall ms < 2 ^ 63 := by
  have : ∀ (l : List Nat) (a : Nat), a < 2 ^ 63 → (∀ m ∈ l, m < 2 ^ 63) → l.foldl (· ^^^ ·) a < 2 ^ 63 := by
    intro l
    induction l with
    | nil => intro a ha _; exact ha
    | cons m l ih =>
      intro a ha hm
      exact ih _ (xor_lt ha (hm m List.mem_cons_self)) fun x hx => hm x (List.mem_cons_of_mem _ hx)
  exact this ms 0 (by decide) h
def msk (l : List Nat) : Nat := xall (l.map (2 ^ ·))
theorem msk_take {l : List Nat} {j u : Nat} (h : l[j]? = some u) : msk (l.take (j + 1)) = msk (l.take j) ^^^ 2 ^ u := by
  unfold msk
  rw [List.map_take, List.map_take]
  exact xall_take (by rw [List.getElem?_map, h]; rfl)
theorem msk_bit {l : List Nat} (nd : l.Nodup) (v : Nat) : (msk l).testBit v = decide (v ∈ l) := by
  suffices h : ∀ n, ∀ l : List Nat, l.length = n → l.Nodup → (msk l).testBit v = decide (v ∈ l) from h _ l rfl nd
  intro n
  induction n with
  | zero =>
    intro l hl _
    have : l = [] := List.length_eq_zero_iff.mp hl
    subst this
    simp [msk, xall]
  | succ n ih =>
    intro l hl nd
    have hne : l ≠ [] := by intro z; subst z; cases hl
    obtain ⟨pre, u, rfl⟩ : ∃ pre u, l = pre ++ [u] := ⟨l.dropLast, l.getLast hne, (List.dropLast_concat_getLast hne).symm⟩
    obtain ⟨n1, n2, n3⟩ := List.nodup_append.mp nd
    have e : msk (pre ++ [u]) = msk pre ^^^ 2 ^ u := by
      unfold msk
      rw [List.map_append]
      exact xall_snoc _ _
    rw [e, bit_toggle, ih pre (by simpa using hl) n1]
    by_cases z : v = u
    · subst z
      have : v ∉ pre := fun m => n3 v m v (by simp) rfl
      simp [this]
    · rw [if_neg z]
      simp [z]
theorem bts_nodup (m : Nat) : (bts m).Nodup := (bts_lt m).imp fun h => Nat.ne_of_lt h
theorem msk_bts {m : Nat} (h : m < 2 ^ 63) : msk (bts m) = m := by
  refine Nat.eq_of_testBit_eq fun u => ?_
  rw [msk_bit (bts_nodup m)]
  by_cases hu : u < 63
  · cases e : m.testBit u with
    | true => exact decide_eq_true (mem_bts.mpr ⟨hu, e⟩)
    | false => exact decide_eq_false fun z => by rw [(mem_bts.mp z).2] at e; cases e
  · rw [bit_ge h (by omega)]
    exact decide_eq_false fun z => hu (mem_bts.mp z).1
def lookB {β : Type} (bs : List (Nat × β)) (h : Nat) : Option β := (bs.find? fun b => decide (b.1 = h)).map (·.2)
def DictR {β : Type} (S : V → β → Prop) : List (Key × V) → List (Nat × β) → Prop := Paired fun kv b => kv.1 = Sum.inl (b.1 : Int) ∧ S kv.2 b.2
theorem DictR.imp {β : Type} {S S' : V → β → Prop} (f : ∀ v b, S v b → S' v b) {kvs : List (Key × V)} {bs : List (Nat × β)} (h : DictR S kvs bs) : DictR S' kvs bs :=
  Paired.mono2 (fun _ _ h => ⟨h.1, f _ _ h.2⟩) h
theorem DictR.val {β : Type} {S : V → β → Prop} {h : Nat} : ∀ {kvs : List (Key × V)} {bs : List (Nat × β)}, DictR S kvs bs →
    (lookB bs h = none → valV kvs (Sum.inl (h : Int) : Key) = none) ∧ (∀ b, lookB bs h = some b → ∃ v, valV kvs (Sum.inl (h : Int) : Key) = some v ∧ S v b)
  | _, _, .nil => ⟨fun _ => rfl, fun _ e => by cases e⟩
  | kv :: kvs, b :: bs, .cons ⟨r1, r2⟩ t => by
    obtain ⟨i1, i2⟩ := DictR.val (h := h) (show DictR S kvs bs from t)
    by_cases e : b.1 = h
    · have e1 : kv.1 = Sum.inl (h : Int) := by rw [r1, e]
      have l : lookB (b :: bs) h = some b.2 := by simp [lookB, List.find?_cons, e]
      rw [l, valV_pos e1]
      refine ⟨(fun z => by cases z), fun c z => ?_⟩
      have z := Option.some.inj z
      subst z
      exact ⟨_, rfl, r2⟩
    · have e1 : ¬ kv.1 = Sum.inl (h : Int) := fun z => e (key_inj (r1.symm.trans z))
      have l : lookB (b :: bs) h = lookB bs h := by simp [lookB, List.find?_cons, e]
      rw [l, valV_neg e1]
      exact ⟨i1, i2⟩
theorem DictR.put {β : Type} {S : V → β → Prop} {kvs : List (Key × V)} {bs : List (Nat × β)} {h : Nat} {v : V} {b : β} (d : DictR S kvs bs) (no : lookB bs h = none) (s : S v b) :
    DictR S (putK kvs (Sum.inl (h : Int) : Key) v) (bs ++ [(h, b)]) := by
  rw [putK_new _ (d.val.1 no)]
  exact PySem.Paired.snoc d ⟨rfl, s⟩
theorem low_cons {m h : Nat} (e : low m = some h) : ∃ t, bts m = h :: t := by
  unfold low at e
  cases q : bts m with
  | nil => rw [q] at e; cases e
  | cons x t =>
    rw [q] at e
    have e : x = h := Option.some.inj e
    subst e
    exact ⟨t, rfl⟩
theorem low_nil {m : Nat} (e : low m = none) : bts m = [] := List.head?_eq_none_iff.mp e
theorem emp_low {m : Nat} : (!(iv (bts m)).isEmpty) = (low m).isSome := by
  unfold low iv
  cases bts m <;> rfl
def PairV (K : PySem.W.Frag) (H : Hp) (v : V) (p : Nat × Nat) : Prop := ∃ t r u, v = .ref t ∧ SqT K H t [r, u] ∧ SumV K H r p.1 ∧ SumV K H u p.2
theorem PairV.same {K : PySem.W.Frag} {H H' : Hp} (s : Same H H') {v : V} {p : Nat × Nat} (h : PairV K H v p) : PairV K H' v p := by
  obtain ⟨t, r, u, e, h1, h2, h3⟩ := h
  exact ⟨t, r, u, e, sqT_same s h1, h2.same s, h3.same s⟩
def OptSum (K : PySem.W.Frag) (H : Hp) (v : V) : Option Nat → Prop
  | none => v = .non
  | some m => SumV K H v m
def sumBy (ms : List Nat) (m : Nat) : Option Nat := if (rest 64 (elim ms).1 m 0).1 = 0 then some (rest 64 (elim ms).1 m 0).2 else none
def lotOf (ms : List Nat) : Option Nat := ((elim ms).2.1.head?).map (·.2)
theorem sqT_updK {K : PySem.W.Frag} {H : Hp} {a b : Addr} {xs : List V} {kvs : List (Key × V)} {o : HO} (hb : H b = some (.dK kvs)) (h : SqT K H a xs) : SqT K (upd H b o) a xs := by
  rcases h with (h | ⟨u, h⟩) | h
  · exact .inl (.inl (by rw [upd_ne (ne_of h hb (by intro z; cases z))]; exact h))
  · exact .inl (.inr ⟨u, by rw [upd_ne (ne_of h hb (by intro z; cases z))]; exact h⟩)
  · exact .inr h
theorem SumV.updK {K : PySem.W.Frag} {H : Hp} {b : Addr} {kvs : List (Key × V)} {o : HO} {v : V} {m : Nat} (hb : H b = some (.dK kvs)) (h : SumV K H v m) : SumV K (upd H b o) v m := by
  obtain ⟨a, e, h⟩ := h
  exact ⟨a, e, sqT_updK hb h⟩
theorem PairV.updK {K : PySem.W.Frag} {H : Hp} {b : Addr} {kvs : List (Key × V)} {o : HO} {v : V} {p : Nat × Nat} (hb : H b = some (.dK kvs)) (h : PairV K H v p) : PairV K (upd H b o) v p := by
  obtain ⟨t, r, u, e, h1, h2, h3⟩ := h
  exact ⟨t, r, u, e, sqT_updK hb h1, h2.updK hb, h3.updK hb⟩
theorem bts_pow {i : Nat} (h : i < 63) : bts (2 ^ i) = [i] := by
  refine (bts_of (by simp) fun u => ?_).symm
  by_cases e : u = i
  · subst e
    simp [h]
  · rw [Nat.testBit_two_pow_of_ne (Ne.symm e)]
    simp [e]
theorem pow_lt63 {i : Nat} (h : i < 63) : 2 ^ i < 2 ^ 63 := Nat.pow_lt_pow_right (by decide) h
theorem for_enum {K : PySem.W.Frag} {a : Addr} {xs : List V} {g : TG} {tb : TS} {D : Ends} {σ : L2.St} {H : Hp} (Pv : Nat → L2.St → Hp → Prop) (h0 : Pv 0 σ H) (hl : ∀ i σ H, Pv i σ H → SqL K H a xs)
    (hs : ∀ i x T σ H, xs[i]? = some x → Pv i σ H → H T = none → g (.ref T) σ (upd H T (.tup [.int (i : Nat), x])) fun σ2 H2 => tb { D with nx := Pv (i + 1), ct := Pv (i + 1), bk := D.nx } σ2 H2)
    (hd : ∀ σ H, Pv xs.length σ H → D.nx σ H) :
    ∃ W : Nat → Nat → L2.St → Hp → Prop, (∃ m, W 0 m σ H) ∧ ∀ i m σ H, W i m σ H →
      ((Ite K a).stop i H ∧ D.nx σ H) ∨ ((Ite K a).go i H ∧ ∃ N : L2.St → Hp → Prop, (∀ σ' H', N σ' H' → ∃ m', m' < m ∧ W (i + 1) m' σ' H') ∧ ∀ x H', (Ite K a).yld i H x H' → g x σ H' fun σ2 H2 => tb { D with nx := N, ct := N, bk := D.nx } σ2 H2) := by
  refine ⟨fun i m σ H => i + m = xs.length ∧ Pv i σ H, ⟨xs.length, Nat.zero_add _, h0⟩, ?_⟩
  intro i m σ H hw
  obtain ⟨hm, p⟩ := hw
  have q := hl i σ H p
  by_cases lt : i < xs.length
  · refine .inr ⟨⟨xs, xs[i], q, List.getElem?_eq_getElem lt⟩, Pv (i + 1), fun σ' H' p' => ⟨m - 1, by omega, by omega, p'⟩, ?_⟩
    rintro x H' ⟨T, y, rfl, nT, rfl, f⟩
    have ey := (f xs q).symm.trans (List.getElem?_eq_getElem lt)
    have ey := Option.some.inj ey
    subst ey
    exact hs i _ T σ H (List.getElem?_eq_getElem lt) p nT
  · have e : i = xs.length := by omega
    subst e
    exact .inl ⟨⟨xs, q, Nat.le_refl _⟩, hd σ H p⟩
theorem cut_ints (cs : List Int) (lo hi : Option Int) (h : ∀ n ∈ cs, 0 ≤ n) : ∃ ds : List Int, cutV (cs.map V.int) lo hi = ds.map V.int ∧ (∀ n ∈ ds, 0 ≤ n) ∧ ds.length ≤ cs.length := by
  have hl := cutV_length (cs.map V.int) lo hi
  unfold cutV at hl ⊢
  rw [← List.map_drop, ← List.map_take] at hl ⊢
  refine ⟨_, rfl, fun n hn => h n (List.mem_of_mem_drop (List.mem_of_mem_take hn)), ?_⟩
  simpa using hl
end Es
set_option Elab.async false
set_option linter.all false
set_option maxRecDepth 100000
set_option maxHeartbeats 4000000
namespace Es
open PySem PySem.Spec PyProof.Rows L2
theorem and_one (n : Nat) : Builtin.bitAnd (n : Int) 1 = ((n % 2 : Nat) : Int) := by
  rw [bitAnd_pp (Int.natCast_nonneg _) (by decide)]
  show ((n &&& 1 : Nat) : Int) = _
  rw [Nat.and_one_is_mod]
theorem shr_nat (m u : Nat) : (m : Int) / 2 ^ ((u : Int).toNat) = ((m / 2 ^ u : Nat) : Int) := by
  rw [Int.toNat_natCast]
  norm_cast
theorem shr_and (m u : Nat) : Builtin.bitAnd ((m : Int) / 2 ^ ((u : Int).toNat)) 1 = if m.testBit u = true then 1 else 0 := by
  rw [shr_nat, and_one]
  have e : m.testBit u = decide (m / 2 ^ u % 2 = 1) := Nat.testBit_eq_decide_div_mod_eq
  rw [e]
  by_cases h : m / 2 ^ u % 2 = 1
  · rw [if_pos (decide_eq_true h), h]; rfl
  · rw [if_neg (by simp [h])]
    have : m / 2 ^ u % 2 = 0 := by omega
    rw [this]; rfl
theorem xor_nat (a b : Nat) : Builtin.bitXor (a : Int) (b : Int) = ((a ^^^ b : Nat) : Int) := by
  rw [Bits.bitXor_pp (Int.natCast_nonneg _) (Int.natCast_nonneg _), Int.toNat_natCast, Int.toNat_natCast]
theorem or_nat (a b : Nat) : Builtin.bitOr (a : Int) (b : Int) = ((a ||| b : Nat) : Int) := by
  rw [Bits.bitOr_pp (Int.natCast_nonneg _) (Int.natCast_nonneg _), Int.toNat_natCast, Int.toNat_natCast]
theorem shl_one (u : Nat) : (1 : Int) * 2 ^ ((u : Int).toNat) = ((2 ^ u : Nat) : Int) := by
  rw [Int.toNat_natCast]
  norm_cast
  rw [Nat.one_mul]
theorem and_negG {m l : Nat} (h2 : m.testBit l = true) (h3 : ∀ j, j < l → m.testBit j = false) : Builtin.bitAnd (m : Int) (-(m : Int)) = ((2 ^ l : Nat) : Int) := by
  have z : m % 2 ^ l = 0 := by
    refine Nat.eq_of_testBit_eq fun j => ?_
    rw [Nat.testBit_mod_two_pow, Nat.zero_testBit]
    by_cases hj : j < l
    · rw [h3 j hj, Bool.and_false]
    · rw [decide_eq_false hj, Bool.false_and]
  have o : m / 2 ^ l % 2 = 1 := by
    have := h2
    rw [Nat.testBit_eq_decide_div_mod_eq] at this
    exact of_decide_eq_true this
  have p0 : 0 < 2 ^ l := Nat.two_pow_pos l
  obtain ⟨q, hq⟩ : ∃ q, m / 2 ^ l = 2 * q + 1 := ⟨m / 2 ^ l / 2, by omega⟩
  have p1 : 2 ^ (l + 1) = 2 * 2 ^ l := by rw [Nat.pow_succ]; omega
  have em : m = 2 ^ (l + 1) * q + 2 ^ l := by
    have d := Nat.div_add_mod m (2 ^ l)
    rw [z, hq] at d
    have e2 : 2 ^ l * (2 * q + 1) = 2 * (2 ^ l * q) + 2 ^ l := by rw [Nat.mul_add, Nat.mul_one, Nat.mul_left_comm]
    have e3 : 2 ^ (l + 1) * q = 2 * (2 ^ l * q) := by rw [p1, Nat.mul_assoc]
    omega
  have mpos : 0 < m := by omega
  have em1 : m - 1 = 2 ^ (l + 1) * q + (2 ^ l - 1) := by omega
  have ea : m &&& (m - 1) = 2 ^ (l + 1) * q := by
    refine Nat.eq_of_testBit_eq fun j => ?_
    rw [Nat.testBit_and]
    have a1 : m.testBit j = if j < l + 1 then (2 ^ l).testBit j else q.testBit (j - (l + 1)) := by
      conv => lhs; rw [em]
      exact Nat.testBit_two_pow_mul_add q (by omega) j
    have a2 : (m - 1).testBit j = if j < l + 1 then (2 ^ l - 1).testBit j else q.testBit (j - (l + 1)) := by
      rw [em1]
      exact Nat.testBit_two_pow_mul_add q (by omega) j
    have a3 : (2 ^ (l + 1) * q).testBit j = if j < l + 1 then (0 : Nat).testBit j else q.testBit (j - (l + 1)) := by
      have := Nat.testBit_two_pow_mul_add q (b := 0) (i := l + 1) (Nat.two_pow_pos _) j
      rw [Nat.add_zero] at this
      exact this
    rw [a1, a2, a3]
    by_cases hj : j < l + 1
    · rw [if_pos hj, if_pos hj, if_pos hj, Nat.zero_testBit]
      by_cases e : j = l
      · subst e
        rw [Nat.testBit_two_pow_sub_one, decide_eq_false (Nat.lt_irrefl _), Bool.and_false]
      · rw [Nat.testBit_two_pow_of_ne (Ne.symm e), Bool.false_and]
    · rw [if_neg hj, if_neg hj, if_neg hj, Bool.and_self]
  rw [bitAnd_pn (Int.natCast_nonneg _) (by omega), Int.toNat_natCast]
  have eb : (Builtin.bitNot (-(m : Int))).toNat = m - 1 := by
    unfold Builtin.bitNot
    omega
  rw [eb, ea]
  omega
theorem and_neg {m l : Nat} (h : low m = some l) : Builtin.bitAnd (m : Int) (-(m : Int)) = ((2 ^ l : Nat) : Int) := and_negG (low_iff.mp h).2.1 (low_iff.mp h).2.2
theorem bits_pow (l : Nat) : Builtin.Int.intBits ((2 ^ l : Nat) : Int) = l + 1 := by
  unfold Builtin.Int.intBits
  have p : 0 < 2 ^ l := Nat.two_pow_pos l
  have h : ((((2 ^ l : Nat) : Int)) == 0) = false := by
    rw [beq_eq_false_iff_ne]
    omega
  rw [h]
  show (((2 ^ l : Nat) : Int)).natAbs.log2 + 1 = l + 1
  rw [Int.natAbs_natCast, Nat.log2_two_pow]
theorem lt_bits (m : Nat) : m < 2 ^ Builtin.Int.intBits (m : Int) := by
  unfold Builtin.Int.intBits
  by_cases h : m = 0
  · subst h
    decide
  · have e : (((m : Int)) == 0) = false := by
      rw [beq_eq_false_iff_ne]
      omega
    rw [e]
    show m < 2 ^ ((m : Int).natAbs.log2 + 1)
    rw [Int.natAbs_natCast]
    exact Nat.lt_log2_self
end Es
set_option Elab.async false
set_option linter.all false
set_option maxRecDepth 100000
set_option maxHeartbeats 4000000
namespace Es
open PySem PySem.Spec PyProof.Rows L2
def sp_together (K : PySem.W.Frag) : Sp := fun vs H Q _ => ∃ (a : Addr) (us : List V) (ms : List Nat), vs = [.ref a] ∧ SqL K H a us ∧ Paired (SumV K H) us ms ∧ (∀ m ∈ ms, m < 2 ^ 63) ∧
  ∀ H' p, Same H H' → H p = none → H' p = some (.tup (iv (bts (xall ms)))) → Q (.ref p) H'
def sp_rest (K : PySem.W.Frag) : Sp := fun vs H Q _ => ∃ (d : Addr) (kvs : List (Key × V)) (bs : List (Nat × Nat × Nat)) (vr vu : V) (m u : Nat), vs = [.ref d, vr, vu] ∧ H d = some (.dK kvs) ∧ DictR (PairV K H) kvs bs ∧
  (∀ b ∈ bs, low b.2.1 = some b.1 ∧ b.2.1 < 2 ^ 63 ∧ b.2.2 < 2 ^ 63) ∧ SumV K H vr m ∧ SumV K H vu u ∧ m < 2 ^ 63 ∧ u < 2 ^ 63 ∧
  ∀ H' p r v, Same H H' → H p = none → H' p = some (.tup [r, v]) → SumV K H' r (rest 64 bs m u).1 → SumV K H' v (rest 64 bs m u).2 → Q (.ref p) H'
def Sums (K : PySem.W.Frag) (H : Hp) (a : Addr) (us : List V) (ms : List Nat) : Prop := SqL K H a us ∧ Paired (SumV K H) us ms ∧ (∀ m ∈ ms, m < 2 ^ 63) ∧ ms.length ≤ 62
def sp_eliminated (K : PySem.W.Frag) : Sp := fun vs H Q _ => ∃ (a : Addr) (us : List V) (ms : List Nat), vs = [.ref a] ∧ Sums K H a us ms ∧
  ∀ H' p d1 d2 k1 k2, Same H H' → H p = none → H' p = some (.tup [.ref d1, .ref d2]) → H d1 = none → H d2 = none → H' d1 = some (.dK k1) → H' d2 = some (.dK k2) →
    DictR (PairV K H') k1 (elim ms).1 → DictR (SumV K H') k2 (elim ms).2.1 → Q (.ref p) H'
def sp_sum_by (K : PySem.W.Frag) : Sp := fun vs H Q _ => ∃ (a : Addr) (us : List V) (ms : List Nat) (vr : V) (m : Nat), vs = [.ref a, vr] ∧ Sums K H a us ms ∧ SumV K H vr m ∧ m < 2 ^ 63 ∧
  ∀ H' v, Same H H' → OptSum K H' v (sumBy ms m) → Q v H'
def sp_dependent_lot (K : PySem.W.Frag) : Sp := fun vs H Q _ => ∃ (a : Addr) (us : List V) (ms : List Nat), vs = [.ref a] ∧ Sums K H a us ms ∧
  ∀ H' v, Same H H' → OptSum K H' v (lotOf ms) → Q v H'
def sp_independent_among (K : PySem.W.Frag) : Sp := fun vs H Q _ => ∃ (a : Addr) (us : List V) (ms : List Nat), vs = [.ref a] ∧ Sums K H a us ms ∧
  ∀ H' p, Same H H' → H p = none → H' p = some (.lst (iv (indep ms))) → Q (.ref p) H'
def sp_rank_of (K : PySem.W.Frag) : Sp := fun vs H Q _ => ∃ (a : Addr) (us : List V) (ms : List Nat), vs = [.ref a] ∧ Sums K H a us ms ∧
  ∀ H', Same H H' → Q (.int ((indep ms).length : Nat)) H'
def BagAt (K : PySem.W.Frag) (H : Hp) (b c : Addr) : Prop := ∃ (x y z : Int) (cs : List Int), H b = some (.lst [.int x, .int y, .int z, .ref c]) ∧ SqL K H c (cs.map V.int) ∧ b ≠ c ∧ 0 ≤ x ∧ 0 ≤ y ∧ y < 2147483647 ∧ 0 ≤ z ∧ (∀ n ∈ cs, 0 ≤ n) ∧ cs.length ≤ 63
theorem sqL_but {K : PySem.W.Frag} {H H' : Hp} {a b : Addr} {xs : List V} (n : a ≠ b) (s : But b H H') (h : SqL K H a xs) : SqL K H' a xs := by
  rcases h with (h | ⟨o, h⟩) | h
  · exact .inl (.inl (s _ _ n h))
  · exact .inl (.inr ⟨o, s _ _ n h⟩)
  · exact .inr h
theorem BagAt.same {K : PySem.W.Frag} {H H' : Hp} {b c : Addr} (s : Same H H') (h : BagAt K H b c) : BagAt K H' b c := by
  obtain ⟨x, y, z, cs, h1, h2, h3⟩ := h
  exact ⟨x, y, z, cs, s _ _ h1, s.seq h2, h3⟩
theorem BagAt.lst {K : PySem.W.Frag} {H : Hp} {b c : Addr} (h : BagAt K H b c) : ∃ ys, H b = some (.lst ys) := by
  obtain ⟨x, y, z, cs, h1, _⟩ := h
  exact ⟨_, h1⟩
theorem SumV.bag {K : PySem.W.Frag} {H H' : Hp} {b c : Addr} {v : V} {m : Nat} (B : BagAt K H b c) (s : But b H H') (h : SumV K H v m) : SumV K H' v m := by
  obtain ⟨ys, e⟩ := B.lst
  exact h.but e s
theorem sums_bag {K : PySem.W.Frag} {H H' : Hp} {b c : Addr} {us : List V} {ms : List Nat} (B : BagAt K H b c) (s : But b H H') (h : Paired (SumV K H) us ms) : Paired (SumV K H') us ms := by
  obtain ⟨ys, e⟩ := B.lst
  exact sums_but e s h
theorem sqT_bag {K : PySem.W.Frag} {H H' : Hp} {a b c : Addr} {xs : List V} (B : BagAt K H b c) (s : But b H H') (h : SqT K H a xs) : SqT K H' a xs := by
  obtain ⟨ys, e⟩ := B.lst
  exact sqT_but e s h
theorem But.free {b : Addr} {H H' : Hp} (s : But b H H') {a : Addr} (n : a ≠ b) (h : H' a = none) : H a = none := by
  cases e : H a with
  | none => rfl
  | some o =>
    rw [s a o n e] at h
    cases h
def sp_law_take (K : PySem.W.Frag) : Sp := fun vs H Q _ => ∃ (b c : Addr) (n : Nat), vs = [.ref b, .int (n : Int)] ∧ BagAt K H b c ∧ 0 < n ∧ n < 1073741824 ∧
  ∀ H' (r : Nat), But b H H' → BagAt K H' b c → r < n → Q (.int (r : Int)) H'
def Sq (K : PySem.W.Frag) (H : Hp) (a : Addr) (xs : List V) : Prop := SqL K H a xs ∨ SqT K H a xs
def sp_law_some (K : PySem.W.Frag) : Sp := fun vs H Q _ => ∃ (b c l : Addr) (xs : List V), vs = [.ref b, .ref l] ∧ BagAt K H b c ∧ l ≠ b ∧ Sq K H l xs ∧ 0 < xs.length ∧ xs.length < 1073741824 ∧
  ∀ (H' : Hp) (r : Nat) (v : V), But b H H' → BagAt K H' b c → xs[r]? = some v → Q v H'
def sp_law_bag (K : PySem.W.Frag) : Sp := fun vs H Q _ => ∃ (a : Addr) (ns : List Int), vs = [.ref a] ∧ SqL K H a (ns.map V.int) ∧ ns.length ≤ 63 ∧
  ∀ H' b c, Same H H' → H b = none → H c = none → BagAt K H' b c → Q (.ref b) H'
def sp_law_alike (K : PySem.W.Frag) : Sp := fun vs H Q _ => ∃ (x y : V) (d : PyData), vs = [x, y] ∧ Dp K H x d ∧ Dp K H y d ∧ nice d = true ∧ d.depth ≤ 40 ∧ d.weight ≤ 2 ^ 20 ∧ Q (.bl true) H
def sp_law_mask (K : PySem.W.Frag) : Sp := fun vs H Q _ => ∃ (v : V) (m : Nat), vs = [v] ∧ SumV K H v m ∧ m < 2 ^ 63 ∧ Q (.int (m : Int)) H
def sp_law_row (K : PySem.W.Frag) : Sp := fun vs H Q _ => ∃ (m : Nat), vs = [.int (m : Int)] ∧ m < 2 ^ 63 ∧ ∀ H' p, Same H H' → H p = none → H' p = some (.tup (iv (bts m))) → Q (.ref p) H'
def wsum (m : Nat) (bs : List Nat) : Nat := ((bts m).map fun u => bs.getD u 0).sum
def sp_worth_of (K : PySem.W.Frag) : Sp := fun vs H Q _ => ∃ (v : V) (b : Addr) (m : Nat) (bs : List Nat), vs = [v, .ref b] ∧ SumV K H v m ∧ SqT K H b (iv bs) ∧ (∀ u ∈ bts m, u < bs.length) ∧
  ∀ H', Same H H' → Q (.int ((wsum m bs % 2 : Nat) : Int)) H'
def sp_law_worth (K : PySem.W.Frag) : Sp := sp_worth_of K
theorem iv_ints (l : List Nat) : iv l = (l.map Int.ofNat).map V.int := by
  unfold iv
  rw [List.map_map]
  rfl
theorem sum_nat : ∀ l : List Nat, (l.map Int.ofNat).sum = ((l.sum : Nat) : Int)
  | [] => rfl
  | x :: l => by
    rw [List.map_cons, List.sum_cons, List.sum_cons, sum_nat l]
    simp
def LineV (K : PySem.W.Frag) (H : Hp) (v : V) (l : Nat × Nat) : Prop := ∃ t r, v = .ref t ∧ SqT K H t [r, .int (l.2 : Int)] ∧ SumV K H r l.1
theorem LineV.same {K : PySem.W.Frag} {H H' : Hp} (s : Same H H') {v : V} {l : Nat × Nat} (h : LineV K H v l) : LineV K H' v l := by
  obtain ⟨t, r, e, h1, h2⟩ := h
  exact ⟨t, r, e, sqT_same s h1, h2.same s⟩
def sp_law_flat_of (K : PySem.W.Frag) : Sp := fun vs H Q _ => ∃ (a : Addr) (us : List V) (ls : List (Nat × Nat)), vs = [.ref a] ∧ SqL K H a us ∧ Paired (LineV K H) us ls ∧ (∀ l ∈ ls, l.1 < 2 ^ 63) ∧
  (lflat ls = none → ∀ H', Same H H' → Q .non H') ∧
  (∀ hs, lflat ls = some hs → ∀ H' p ys, Same H H' → H p = none → H' p = some (.tup ys) → ys.length = hs.length → Q (.ref p) H')
def sp_law_rank (K : PySem.W.Frag) : Sp := fun vs H Q _ => ∃ (a : Addr) (us : List V) (ms : List Nat), vs = [.ref a] ∧ SqL K H a us ∧ Paired (SumV K H) us ms ∧ (∀ m ∈ ms, m < 2 ^ 63) ∧ ms.length ≤ 100 ∧
  ∀ H', Same H H' → Q (.int ((lrank ms : Nat) : Int)) H'
def PairI (K : PySem.W.Frag) (H : Hp) (v : V) (p : Nat × Nat) : Prop := ∃ t, v = .ref t ∧ SqT K H t [.int (p.1 : Int), .int (p.2 : Int)]
theorem PairI.same {K : PySem.W.Frag} {H H' : Hp} (s : Same H H') {v : V} {p : Nat × Nat} (h : PairI K H v p) : PairI K H' v p := by
  obtain ⟨t, e, h⟩ := h
  exact ⟨t, e, sqT_same s h⟩
theorem PairI.updK {K : PySem.W.Frag} {H : Hp} {b : Addr} {kvs : List (Key × V)} {o : HO} {v : V} {p : Nat × Nat} (hb : H b = some (.dK kvs)) (h : PairI K H v p) : PairI K (upd H b o) v p := by
  obtain ⟨t, e, h⟩ := h
  exact ⟨t, e, sqT_updK hb h⟩
theorem DictR.keys {β : Type} {S : V → β → Prop} : ∀ {kvs : List (Key × V)} {bs : List (Nat × β)}, DictR S kvs bs → kvs.map (·.1) = (bs.map fun b => Int.ofNat b.1).map Sum.inl
  | _, _, .nil => rfl
  | kv :: kvs, b :: bs, .cons ⟨r1, _⟩ t => by
    have ih := DictR.keys (show DictR S kvs bs from t)
    rw [List.map_cons, List.map_cons, List.map_cons, ih, r1]
    rfl
theorem DictR.sorted {β : Type} {S : V → β → Prop} {kvs : List (Key × V)} {bs : List (Nat × β)} (d : DictR S kvs bs) (nd : (bs.map (·.1)).Nodup) (h63 : ∀ b ∈ bs, b.1 < 63) :
    (bs.map fun b => Int.ofNat b.1).length < 64 ∧ ∀ ys : List Int, ys.Perm (bs.map fun b => Int.ofNat b.1) → ys.Pairwise (· ≤ ·) → ys.map V.int = iv (srt (bs.map (·.1))) := by
  have hm : ∀ u, u ∈ bs.map (·.1) ↔ u < 63 ∧ (msk (bs.map (·.1))).testBit u = true := fun u => by
    rw [msk_bit nd, decide_eq_true_eq]
    constructor
    · intro h
      obtain ⟨b, hb, e⟩ := List.mem_map.mp h
      exact ⟨e ▸ h63 b hb, h⟩
    · exact fun h => h.2
  obtain ⟨ks, k1, k2, k3⟩ := dictM_keys (kvs := (bs.map (·.1)).map fun (u : Nat) => ((Sum.inl (u : Int) : Key), V.bl true)) ⟨bs.map (·.1), rfl, nd, hm⟩
  have ek : ks = bs.map fun b => Int.ofNat b.1 := by
    have e1 : ks.map (Sum.inl : Int → Key) = (bs.map fun b => Int.ofNat b.1).map Sum.inl := by
      rw [← k1, List.map_map, List.map_map, List.map_map]
      rfl
    exact (List.map_inj_right (fun a b h => Sum.inl.inj h)).mp e1
  subst ek
  refine ⟨k2, fun ys hp hs => ?_⟩
  rw [k3 ys hp hs]
  congr 1
  refine (bts_of (srt_lt _) fun u => ?_).symm
  rw [mem_srt, hm]
  exact ⟨fun h => h.2, fun h => ⟨h.1, h⟩⟩
theorem DictR.set {β : Type} {S : V → β → Prop} {h : Nat} {v : V} {b : β} (s : S v b) {kvs : List (Key × V)} {bs : List (Nat × β)} (d : DictR S kvs bs) (hh : h ∈ bs.map (·.1)) :
    DictR S (putK kvs (Sum.inl (h : Int) : Key) v) (bs.map fun e => if e.1 = h then (h, b) else e) := by
  have go : ∀ {kvs : List (Key × V)} {bs : List (Nat × β)}, DictR S kvs bs → DictR S (kvs.map fun kv => if kv.1 = (Sum.inl (h : Int) : Key) then (kv.1, v) else kv) (bs.map fun e => if e.1 = h then (h, b) else e) := by
    intro kvs bs d
    induction d with
    | nil => exact .nil
    | @cons kv e l1 l2 r t ih =>
      rw [List.map_cons, List.map_cons]
      refine .cons ?_ ih
      by_cases q : e.1 = h
      · have q2 : kv.1 = (Sum.inl (h : Int) : Key) := by rw [r.1, q]
        rw [if_pos q, if_pos q2]
        exact ⟨q2, s⟩
      · have q2 : ¬ kv.1 = (Sum.inl (h : Int) : Key) := fun z => q (key_inj (r.1.symm.trans z))
        rw [if_neg q, if_neg q2]
        exact r
  unfold putK
  have e : (kvs.any fun kv => decide (kv.1 = (Sum.inl (h : Int) : Key))) = true := by
    rw [valV_any]
    obtain ⟨v1, v2⟩ := d.val (h := h)
    cases q : lookB bs h with
    | none =>
      unfold lookB at q
      rw [Option.map_eq_none_iff, List.find?_eq_none] at q
      obtain ⟨x, hx, ex⟩ := List.mem_map.mp hh
      exact absurd (decide_eq_true ex) (q x hx)
    | some b' =>
      obtain ⟨w, ew, _⟩ := v2 b' q
      rw [ew]
      rfl
  rw [if_pos e]
  exact go d
def lputTo (hs : List (Nat × Nat × Nat)) (S : List Nat) (a : Nat) (p : Nat × Nat) : List (Nat × Nat × Nat) :=
  hs.map fun e => if e.1 ∈ S ∧ e.2.1.testBit a = true then (e.1, e.2.1 ^^^ p.1, e.2.2 ^^^ p.2) else e
theorem lputTo_keys (hs : List (Nat × Nat × Nat)) (S : List Nat) (a : Nat) (p : Nat × Nat) : (lputTo hs S a p).map (·.1) = hs.map (·.1) := by
  unfold lputTo
  rw [List.map_map]
  refine List.map_congr_left fun e _ => ?_
  show (if _ then _ else _ : Nat × Nat × Nat).1 = e.1
  split <;> rfl
theorem lputTo_nil (hs : List (Nat × Nat × Nat)) (a : Nat) (p : Nat × Nat) : lputTo hs [] a p = hs := by
  unfold lputTo
  conv => rhs; rw [← List.map_id hs]
  refine List.map_congr_left fun e _ => ?_
  rw [if_neg (by simp)]
  rfl
theorem lputTo_all (hs : List (Nat × Nat × Nat)) (h63 : ∀ e ∈ hs, e.1 < 63) (a : Nat) (p : Nat × Nat) : lputTo hs (srt (hs.map (·.1))) a p ++ [(a, p.1, p.2)] = lput hs a p := by
  unfold lputTo lput
  congr 1
  refine List.map_congr_left fun e he => ?_
  have hm : e.1 ∈ srt (hs.map (·.1)) := mem_srt.mpr ⟨h63 e he, List.mem_map.mpr ⟨e, he, rfl⟩⟩
  by_cases hb : e.2.1.testBit a = true
  · rw [if_pos ⟨hm, hb⟩, if_pos hb]
  · rw [if_neg fun z => hb z.2, if_neg hb]
theorem look_nd : ∀ {hs : List (Nat × Nat × Nat)}, (hs.map (·.1)).Nodup → ∀ {e : Nat × Nat × Nat}, e ∈ hs → look hs e.1 = some e.2
  | [], _, e, h => by cases h
  | x :: hs, nd, e, h => by
    have nd : (x.1 :: hs.map (·.1)).Nodup := nd
    obtain ⟨n1, n2⟩ := List.nodup_cons.mp nd
    rcases List.mem_cons.mp h with rfl | h
    · simp [look, List.find?_cons]
    · have ne : x.1 ≠ e.1 := fun z => n1 (z ▸ List.mem_map.mpr ⟨e, h, rfl⟩)
      have ih := look_nd n2 h
      unfold look at ih ⊢
      rw [List.find?_cons, decide_eq_false ne]
      exact ih
theorem lputTo_step {hs : List (Nat × Nat × Nat)} (nd : (hs.map (·.1)).Nodup) {S : List Nat} {h a : Nat} {p q : Nat × Nat} (hn : h ∉ S) (hq : look hs h = some q) :
    look (lputTo hs S a p) h = some q ∧
    (q.1.testBit a = true → (lputTo hs S a p).map (fun e => if e.1 = h then (h, q.1 ^^^ p.1, q.2 ^^^ p.2) else e) = lputTo hs (S ++ [h]) a p) ∧
    (q.1.testBit a = false → lputTo hs S a p = lputTo hs (S ++ [h]) a p) := by
  have mem := look_mem hq
  have uniq : ∀ e ∈ hs, e.1 = h → e = (h, q) := fun e he z => by
    have := look_nd nd he
    rw [z, hq] at this
    have := Option.some.inj this
    obtain ⟨x, y⟩ := e
    simp only at z this
    rw [z, this]
  refine ⟨?_, fun hb => ?_, fun hb => ?_⟩
  · have m2 : (h, q) ∈ lputTo hs S a p := List.mem_map.mpr ⟨(h, q), mem, if_neg fun z => hn z.1⟩
    exact look_nd (by rw [lputTo_keys]; exact nd) m2
  · unfold lputTo
    rw [List.map_map]
    refine List.map_congr_left fun e he => ?_
    show (if (if e.1 ∈ S ∧ e.2.1.testBit a = true then (e.1, e.2.1 ^^^ p.1, e.2.2 ^^^ p.2) else e).1 = h then (h, q.1 ^^^ p.1, q.2 ^^^ p.2) else (if e.1 ∈ S ∧ e.2.1.testBit a = true then (e.1, e.2.1 ^^^ p.1, e.2.2 ^^^ p.2) else e)) = _
    by_cases z : e.1 = h
    · have e0 := uniq e he z
      subst e0
      have n1 : ¬ ((h, q).1 ∈ S ∧ ((h, q) : Nat × Nat × Nat).2.1.testBit a = true) := fun y => hn y.1
      rw [if_neg n1, if_pos z, if_pos ⟨List.mem_append_right _ (by simp), hb⟩]
    · have k1 : (if e.1 ∈ S ∧ e.2.1.testBit a = true then (e.1, e.2.1 ^^^ p.1, e.2.2 ^^^ p.2) else e).1 = e.1 := by split <;> rfl
      rw [k1, if_neg z]
      by_cases c : e.1 ∈ S ∧ e.2.1.testBit a = true
      · rw [if_pos c, if_pos ⟨List.mem_append_left _ c.1, c.2⟩]
      · rw [if_neg c, if_neg fun y => c ⟨(List.mem_append.mp y.1).resolve_right (by simpa using z), y.2⟩]
  · unfold lputTo
    refine List.map_congr_left fun e he => ?_
    by_cases z : e.1 = h
    · have e0 := uniq e he z
      subst e0
      rw [if_neg fun z => hn z.1, if_neg fun y => by rw [show ((h, q).2.1).testBit a = false from hb] at y; exact absurd y.2 Bool.false_ne_true]
    · by_cases c : e.1 ∈ S ∧ e.2.1.testBit a = true
      · rw [if_pos c, if_pos ⟨List.mem_append_left _ c.1, c.2⟩]
      · rw [if_neg c, if_neg fun y => c ⟨(List.mem_append.mp y.1).resolve_right (by simpa using z), y.2⟩]
theorem lflat_red : ∀ (ls : List (Nat × Nat)), (∀ l ∈ ls, l.1 < 2 ^ 63) → ∀ hs, lflat ls = some hs → RedOk hs := by
  intro ls
  suffices h : ∀ n, ∀ ls : List (Nat × Nat), ls.length = n → (∀ l ∈ ls, l.1 < 2 ^ 63) → ∀ hs, lflat ls = some hs → RedOk hs from h _ ls rfl
  intro n
  induction n with
  | zero =>
    intro ls hl _ hs e
    have : ls = [] := List.length_eq_zero_iff.mp hl
    subst this
    have e : some [] = some hs := e
    have e := Option.some.inj e
    subst e
    exact ⟨List.nodup_nil, (fun e he => by cases he), (fun e he => by cases he)⟩
  | succ n ih =>
    intro ls hl hm hs e
    have hne : ls ≠ [] := by intro z; subst z; cases hl
    obtain ⟨pre, l, rfl⟩ : ∃ pre l, ls = pre ++ [l] := ⟨ls.dropLast, ls.getLast hne, (List.dropLast_concat_getLast hne).symm⟩
    rw [lflat_snoc] at e
    obtain ⟨hs0, e0, e1⟩ := Option.bind_eq_some_iff.mp e
    have R := ih pre (by simpa using hl) (fun x hx => hm x (List.mem_append_left _ hx)) hs0 e0
    obtain ⟨l1, _, l3⟩ := lred_spec R (p := l) (hm l (List.mem_append_right _ List.mem_cons_self))
    unfold lstep at e1
    cases q : low (lred hs0 l).1 with
    | none =>
      rw [q] at e1
      simp only at e1
      split at e1
      · cases e1
      · have e1 := Option.some.inj e1
        subst e1
        exact R
    | some a =>
      rw [q] at e1
      have e1 := Option.some.inj e1
      subst e1
      exact (lput_ok R l1 q l3).1
theorem lflat_take {ls : List (Nat × Nat)} {i : Nat} {l : Nat × Nat} (h : ls[i]? = some l) : lflat (ls.take (i + 1)) = (lflat (ls.take i)).bind fun hs => lstep hs l := by
  obtain ⟨hi, e⟩ := List.getElem?_eq_some_iff.mp h
  rw [List.take_succ_eq_append_getElem hi, e, lflat_snoc]
theorem lflat_none_take {ls : List (Nat × Nat)} {i : Nat} (h : lflat (ls.take i) = none) : lflat ls = none := by
  have : lflat ls = (ls.drop i).foldl (fun o l => o.bind fun hs => lstep hs l) (lflat (ls.take i)) := by
    unfold lflat
    rw [← List.foldl_append, List.take_append_drop]
  rw [this, h]
  generalize ls.drop i = r
  induction r with
  | nil => rfl
  | cons x r ih => exact ih
def sumD (m : Nat) : PyData := .tuple (((bts m).map Int.ofNat).map .int)
def lineD (l : Nat × Nat) : PyData := .tuple [sumD l.1, .int (l.2 : Int)]
theorem dp_ints {K : PySem.W.Frag} {H : Hp} : ∀ ns : List Int, DpAll K H (ns.map V.int) (ns.map .int)
  | [] => .nil
  | n :: ns => .cons (.int n) (dp_ints ns)
theorem dp_sum {K : PySem.W.Frag} {H : Hp} {v : V} {m : Nat} (h : SumV K H v m) : Dp K H v (sumD m) := by
  obtain ⟨a, rfl, h⟩ := h
  rw [iv_ints] at h
  exact .tup h (dp_ints _)
theorem dp_line {K : PySem.W.Frag} {H : Hp} {v : V} {l : Nat × Nat} (h : LineV K H v l) : Dp K H v (lineD l) := by
  obtain ⟨t, r, rfl, h1, h2⟩ := h
  exact .tup h1 (.cons (dp_sum h2) (.cons (.int _) .nil))
theorem depth_ints : ∀ ns : List Int, PyData.depthAll (ns.map .int) = 0
  | [] => rfl
  | n :: ns => by
    show max (PyData.depth (.int n)) (PyData.depthAll (ns.map .int)) = 0
    rw [depth_ints ns]
    rfl
theorem depth_sumD (m : Nat) : (sumD m).depth = 1 := by
  show PyData.depthAll _ + 1 = 1
  rw [depth_ints]
theorem depth_lineD (l : Nat × Nat) : (lineD l).depth = 2 := by
  show max (sumD l.1).depth (max (PyData.depth (.int (l.2 : Int))) 0) + 1 = 2
  rw [depth_sumD]
  rfl
theorem alike_lineD (l k : Nat × Nat) : PySem.W.alike (lineD l) (lineD k) = true := by
  show PySem.W.alikeAll [sumD l.1, .int (l.2 : Int)] [sumD k.1, .int (k.2 : Int)] = true
  have e : PySem.W.alike (sumD l.1) (sumD k.1) = true := PySem.W.alike_ints _ _
  simp [PySem.W.alikeAll, e, PySem.W.alike]
theorem LineV.but {K : PySem.W.Frag} {H H' : Hp} {b : Addr} {ys : List V} (hb : H b = some (.lst ys)) (s : But b H H') {v : V} {l : Nat × Nat} (h : LineV K H v l) : LineV K H' v l := by
  obtain ⟨t, r, e, h1, h2⟩ := h
  exact ⟨t, r, e, sqT_but hb s h1, h2.but hb s⟩
theorem tyT {K : PySem.W.Frag} {H : Hp} {a : Addr} {xs : List V} (h : SqT K H a xs) : TyX K H (.ref a) (.type "tuple") := by
  rcases h with (h | ⟨o, h⟩) | ⟨o, its, n, h, c, _⟩
  · exact .base (.tup h)
  · exact .fTuple h
  · exact .kTuple h c
def rLenK (K : PySem.W.Frag) : List V → Hp → VK → Prop := fun xs H Q => ∃ p ys, xs = [.ref p] ∧ (SqL K H p ys ∨ SqT K H p ys) ∧ Q (.int ys.length) H
def sp_law_any_row (K : PySem.W.Frag) : Sp := fun vs H Q _ => ∃ (b c : Addr) (n : Nat), vs = [.ref b, .int (n : Int)] ∧ BagAt K H b c ∧ 0 < n ∧ n ≤ 62 ∧
  ∀ H' v m, But b H H' → BagAt K H' b c → SumV K H' v m → m < 2 ^ n → m ≠ 0 → Q v H'
def sp_law_is_whole (K : PySem.W.Frag) : Sp := fun vs H Q _ => ∃ (i : Int), vs = [.int i] ∧ Q (.bl true) H
def sp_law_is_in (K : PySem.W.Frag) : Sp := fun vs H Q _ => ∃ (i n : Int), vs = [.int i, .int n] ∧ Q (.bl (decide (0 ≤ i) && decide (i < n))) H
def sp_law_is_sum (K : PySem.W.Frag) : Sp := fun vs H Q _ => ∃ (n m : Nat) (v : V), vs = [.int (n : Int), v] ∧ SumV K H v m ∧ m < 2 ^ n ∧ n ≤ 63 ∧ ∀ H', Same H H' → Q (.bl true) H'
def sp_law_are_some (K : PySem.W.Frag) : Sp := sp_law_is_sum K
def sp_law_all_of (K : PySem.W.Frag) : Sp := fun vs H Q _ => ∃ (a : Addr) (us : List V) (ms : List Nat), vs = [.ref a] ∧ SqL K H a us ∧ Paired (SumV K H) us ms ∧ (∀ m ∈ ms, m < 2 ^ 63) ∧ ms.length ≤ 1000 ∧
  ∀ H' v, Same H H' → SumV K H' v (xall ms) → Q v H'
def sp_law_is_sum_right (K : PySem.W.Frag) : Sp := fun vs H Q _ => ∃ (a : Addr) (us : List V) (ms : List Nat) (v : V) (m : Nat), vs = [.ref a, v] ∧ Sums K H a us ms ∧ SumV K H v m ∧ m < 2 ^ 63 ∧
  ∀ H', Same H H' → Q (.bl true) H'
def sp_law_are_told (K : PySem.W.Frag) : Sp := fun vs H Q _ => ∃ (b c a : Addr) (us : List V) (ms : List Nat) (n : Nat), vs = [.ref b, .int (n : Int), .ref a] ∧ BagAt K H b c ∧ a ≠ b ∧ H a = some (.lst us) ∧ Sums K H a us ms ∧ (∀ m ∈ ms, m < 2 ^ n) ∧ n ≤ 62 ∧
  ∀ H', But b H H' → BagAt K H' b c → Q (.bl true) H'
theorem bits_below {m n u : Nat} (h : m < 2 ^ n) (hu : u ∈ bts m) : u < n := by
  refine Nat.lt_of_not_le fun z => ?_
  have b := (mem_bts.mp hu).2
  rw [Nat.testBit_lt_two_pow (Nat.lt_of_lt_of_le h (Nat.pow_le_pow_right (by decide) z))] at b
  cases b
theorem dp_nil {K : PySem.W.Frag} {H : Hp} {a : Addr} (h : SqL K H a []) : Dp K H (.ref a) (.list []) := .lst h .nil
theorem dp_list {K : PySem.W.Frag} {H : Hp} {a : Addr} {ns : List Int} (h : SqL K H a (ns.map V.int)) : Dp K H (.ref a) (.list (ns.map .int)) := .lst h (dp_ints ns)
theorem eqv_ints : ∀ ns : List Int, PyData.eqvAll (ns.map .int) (ns.map .int) = true
  | [] => rfl
  | n :: ns => by
    show (PyData.eqv (.int n) (.int n) && PyData.eqvAll (ns.map .int) (ns.map .int)) = true
    rw [eqv_ints ns, Bool.and_true]
    exact beq_self_eq_true n
theorem lay_ints : ∀ ns : List Int, PyData.canLayAll0 (ns.map .int) = true
  | [] => rfl
  | n :: ns => by
    show (PyData.canLay0 (.int n) && PyData.canLayAll0 (ns.map .int)) = true
    rw [lay_ints ns]
    rfl
theorem shaped_ints (ns : List Int) : SeqAt.shaped (.list (ns.map .int)) = true := by
  unfold SeqAt.shaped
  rw [Bool.and_eq_true]
  refine ⟨by simpa [PyData.canLay0] using lay_ints ns, decide_eq_true ?_⟩
  show PyData.depthAll (ns.map .int) + 1 ≤ 64
  rw [depth_ints]
  decide
abbrev NumV : V → Nat → Prop := fun v n => v = .int (n : Int)
structure Cnt (bs : List (Nat × Nat)) (m : Nat) : Prop where
  nd : (bs.map (·.1)).Nodup
  lt : ∀ e ∈ bs, e.1 < 63
  bit : ∀ u, u < 63 → m.testBit u = decide (((lookB bs u).getD 0) % 2 = 1)
theorem cnt_nil : Cnt [] 0 := ⟨List.nodup_nil, (fun e he => by cases he), fun u _ => by simp [lookB]⟩
theorem lookB_mem {β : Type} {bs : List (Nat × β)} {h : Nat} {b : β} (e : lookB bs h = some b) : (h, b) ∈ bs := by
  unfold lookB at e
  obtain ⟨x, hx, ex⟩ := Option.map_eq_some_iff.mp e
  have h1 := List.find?_some hx
  have h1 : x.1 = h := of_decide_eq_true h1
  have h2 := List.mem_of_find?_eq_some hx
  obtain ⟨y, z⟩ := x
  simp only at ex h1
  subst ex; subst h1
  exact h2
theorem lookB_none {β : Type} {bs : List (Nat × β)} {h : Nat} : lookB bs h = none ↔ h ∉ bs.map (·.1) := by
  unfold lookB
  rw [Option.map_eq_none_iff, List.find?_eq_none]
  constructor
  · intro k m
    obtain ⟨b, hb, e⟩ := List.mem_map.mp m
    exact k b hb (decide_eq_true e)
  · intro k b hb e
    exact k (List.mem_map.mpr ⟨b, hb, of_decide_eq_true e⟩)
theorem lookB_snoc {β : Type} {bs : List (Nat × β)} {h u : Nat} {b : β} (no : lookB bs h = none) : lookB (bs ++ [(h, b)]) u = if u = h then some b else lookB bs u := by
  unfold lookB at no ⊢
  rw [List.find?_append]
  by_cases e : u = h
  · subst e
    rw [Option.map_eq_none_iff] at no
    rw [no, if_pos rfl]
    simp
  · rw [if_neg e]
    have : ([(h, b)] : List (Nat × β)).find? (fun b => decide (b.1 = u)) = none := by
      simp [Ne.symm e]
    rw [this, Option.or_none]
theorem lookB_set {β : Type} {h u : Nat} {b : β} : ∀ {bs : List (Nat × β)}, h ∈ bs.map (·.1) → lookB (bs.map fun e => if e.1 = h then (h, b) else e) u = if u = h then some b else lookB bs u
  | [], m => by cases m
  | e :: bs, m => by
    by_cases q : e.1 = h
    · by_cases z : u = h
      · subst z
        simp [lookB, List.find?_cons, q]
      · have ih : lookB (bs.map fun e => if e.1 = h then (h, b) else e) u = lookB bs u := by
          by_cases m2 : h ∈ bs.map (·.1)
          · rw [lookB_set m2, if_neg z]
          · congr 1
            conv => rhs; rw [← List.map_id bs]
            refine List.map_congr_left fun x hx => ?_
            rw [if_neg fun w => m2 (List.mem_map.mpr ⟨x, hx, w⟩)]
            rfl
        unfold lookB at ih ⊢
        rw [List.map_cons, if_pos q, List.find?_cons, List.find?_cons]
        have d1 : decide (h = u) = false := decide_eq_false (Ne.symm z)
        have d2 : decide (e.1 = u) = false := decide_eq_false (by rw [q]; exact Ne.symm z)
        simp only [d1, d2, if_neg z]
        exact ih
    · have m2 : h ∈ bs.map (·.1) := by
        rcases List.mem_cons.mp m with w | w
        · exact absurd w.symm q
        · exact w
      have ih := lookB_set (u := u) (b := b) m2
      unfold lookB at ih ⊢
      rw [List.map_cons, if_neg q, List.find?_cons, List.find?_cons]
      by_cases z : e.1 = u
      · have : u ≠ h := fun w => q (z.trans w)
        simp [z, this]
      · have d2 : decide (e.1 = u) = false := decide_eq_false z
        simp only [d2]
        exact ih
theorem cnt_inc {bs : List (Nat × Nat)} {m u : Nat} (C : Cnt bs m) (hu : u < 63) {bs' : List (Nat × Nat)} (hk : bs'.map (·.1) = bs.map (·.1) ∨ (bs'.map (·.1) = bs.map (·.1) ++ [u] ∧ u ∉ bs.map (·.1)))
    (hl : ∀ v, lookB bs' v = if v = u then some ((lookB bs u).getD 0 + 1) else lookB bs v) : Cnt bs' (m ^^^ 2 ^ u) := by
  refine ⟨?_, ?_, fun v hv => ?_⟩
  · rcases hk with hk | ⟨hk, hn⟩
    · rw [hk]; exact C.nd
    · rw [hk]
      refine List.nodup_append.mpr ⟨C.nd, by simp, fun a ha b hb => ?_⟩
      have hb : b = u := by simpa using hb
      subst hb
      exact fun z => hn (z ▸ ha)
  · intro e he
    have he2 : e.1 ∈ bs'.map (·.1) := List.mem_map.mpr ⟨e, he, rfl⟩
    have old : ∀ x, x ∈ bs.map (·.1) → x < 63 := fun x hx => by
      obtain ⟨b, hb, z⟩ := List.mem_map.mp hx
      exact z ▸ C.lt b hb
    rcases hk with hk | ⟨hk, _⟩
    · rw [hk] at he2
      exact old _ he2
    · rw [hk] at he2
      rcases List.mem_append.mp he2 with h | h
      · exact old _ h
      · have h : e.1 = u := by simpa using h
        rw [h]; exact hu
  · rw [bit_toggle, hl v, C.bit v hv]
    by_cases e : v = u
    · subst e
      rw [if_pos rfl, if_pos rfl]
      show (!decide (((lookB bs v).getD 0) % 2 = 1)) = decide (((lookB bs v).getD 0 + 1) % 2 = 1)
      by_cases z : ((lookB bs v).getD 0) % 2 = 1
      · rw [decide_eq_true z, decide_eq_false (by omega)]; rfl
      · rw [decide_eq_false z, decide_eq_true (by omega)]; rfl
    · rw [if_neg e, if_neg e]
theorem cnt_len {bs : List (Nat × Nat)} {m : Nat} (C : Cnt bs m) : bs.length ≤ 63 := by
  have := dictM_len (kvs := (bs.map (·.1)).map fun (u : Nat) => ((Sum.inl (u : Int) : Key), V.bl true)) (m := msk (bs.map (·.1))) ⟨bs.map (·.1), rfl, C.nd, fun u => by
    rw [msk_bit C.nd, decide_eq_true_eq]
    constructor
    · intro h
      obtain ⟨e, he, z⟩ := List.mem_map.mp h
      exact ⟨z ▸ C.lt e he, h⟩
    · exact fun h => h.2⟩
  simpa using this
theorem lc_keys {d : Addr} {od : Obj} {kvs : List (Key × V)} {g : TG} {tt : TT} {te : TE} {vs : List Nat} {D : Addr} {σ : L2.St} {H : Hp} {Qd : Hp → Prop} (Pv : Nat → Hp → Prop) (h0 : Pv 0 (upd H D (.lst [])))
    (hf : ∀ i H, Pv i H → H d = some (.frz od (.dK kvs)))
    (hs : ∀ i k v H, kvs[i]? = some (k, v) → Pv i H → g (kV k) (wipe σ vs) H fun σ2 H2 => wipe σ2 vs = wipe σ vs ∧ tt σ2 H2 fun b H3 =>
      if b = true then te σ2 H3 fun y H4 => ∃ acc, H4 D = some (.lst acc) ∧ acc.length < sizeLine ∧ Pv (i + 1) (upd H4 D (.lst (acc ++ [y]))) else Pv (i + 1) H3)
    (hd : ∀ H, Pv kvs.length H → Qd H) :
    ∃ W : Nat → Nat → Hp → Prop, (∃ m, W 0 m (upd H D (.lst []))) ∧ ∀ i m H, W i m H →
      ((Itk d od kvs).stop i H ∧ Qd H) ∨ ((Itk d od kvs).go i H ∧ ∃ Nx : Hp → Prop, (∀ H', Nx H' → ∃ m', m' < m ∧ W (i + 1) m' H') ∧ ∀ x H', (Itk d od kvs).yld i H x H' → g x (wipe σ vs) H' fun σ2 H2 => wipe σ2 vs = wipe σ vs ∧ tt σ2 H2 fun b H3 =>
        if b = true then te σ2 H3 fun y H4 => ∃ acc, H4 D = some (.lst acc) ∧ acc.length < sizeLine ∧ Nx (upd H4 D (.lst (acc ++ [y]))) else Nx H3) := by
  refine ⟨fun i m H => i + m = kvs.length ∧ Pv i H, ⟨kvs.length, Nat.zero_add _, h0⟩, ?_⟩
  intro i m H hw
  obtain ⟨hm, p⟩ := hw
  by_cases lt : i < kvs.length
  · refine .inr ⟨⟨hf i H p, lt⟩, Pv (i + 1), fun H' p' => ⟨m - 1, by omega, by omega, p'⟩, ?_⟩
    rintro x H' ⟨rfl, k, v, hk, rfl⟩
    exact hs i k v H' hk p
  · have e : i = kvs.length := by omega
    subst e
    exact .inl ⟨⟨hf _ H p, Nat.le_refl _⟩, hd H p⟩
def sumsD (ms : List Nat) : PyData := .list (ms.map sumD)
def optD : Option Nat → PyData
  | none => .none
  | some u => sumD u
theorem dp_sumsAll {K : PySem.W.Frag} {H : Hp} : ∀ {us : List V} {ms : List Nat}, Paired (SumV K H) us ms → DpAll K H us (ms.map sumD)
  | _, _, .nil => .nil
  | _, _, .cons r t => .cons (dp_sum r) (dp_sumsAll t)
theorem dp_sums {K : PySem.W.Frag} {H : Hp} {a : Addr} {us : List V} {ms : List Nat} (h : SqL K H a us) (p : Paired (SumV K H) us ms) : Dp K H (.ref a) (sumsD ms) := .lst h (dp_sumsAll p)
theorem dp_opt {K : PySem.W.Frag} {H : Hp} {v : V} {o : Option Nat} (h : OptSum K H v o) : Dp K H v (optD o) := by
  cases o with
  | none =>
    have h : v = .non := h
    subst h
    exact .non
  | some u => exact dp_sum h
theorem nice_ints {ns : List Int} (h : ∀ n ∈ ns, n.natAbs < 10 ^ 12) : niceAll (ns.map .int) = true := by
  rw [niceAll_iff]
  intro x hx
  obtain ⟨n, hn, rfl⟩ := List.mem_map.mp hx
  exact decide_eq_true (h n hn)
theorem nice_sumD (m : Nat) : nice (sumD m) = true := by
  refine nice_ints fun n hn => ?_
  obtain ⟨u, hu, rfl⟩ := List.mem_map.mp hn
  have := (mem_bts.mp hu).1
  show u < 10 ^ 12
  exact Nat.lt_trans this (by decide)
theorem nice_sumsD (ms : List Nat) : nice (sumsD ms) = true := by
  show niceAll (ms.map sumD) = true
  rw [niceAll_iff]
  intro x hx
  obtain ⟨m, _, rfl⟩ := List.mem_map.mp hx
  exact nice_sumD m
theorem nice_optD (o : Option Nat) : nice (optD o) = true := by
  cases o with
  | none => rfl
  | some u => exact nice_sumD u
theorem depth_sumsAll : ∀ ms : List Nat, PyData.depthAll (ms.map sumD) ≤ 1
  | [] => Nat.zero_le _
  | m :: ms => by
    show max (sumD m).depth (PyData.depthAll (ms.map sumD)) ≤ 1
    rw [depth_sumD]
    exact Nat.max_le.mpr ⟨Nat.le_refl _, depth_sumsAll ms⟩
theorem depth_sumsD (ms : List Nat) : (sumsD ms).depth ≤ 2 := by
  show PyData.depthAll (ms.map sumD) + 1 ≤ 2
  have := depth_sumsAll ms
  omega
theorem depth_optD (o : Option Nat) : (optD o).depth ≤ 1 := by
  cases o with
  | none => exact Nat.zero_le _
  | some u =>
    show (sumD u).depth ≤ 1
    rw [depth_sumD]
    exact Nat.le_refl _
theorem weight_int {i : Int} {k : Nat} (h : i.natAbs < 2 ^ k) : PyData.weight (.int i) ≤ k := by
  show (if i == 0 then 0 else i.natAbs.log2 + 1) ≤ k
  by_cases z : i = 0
  · subst z
    exact Nat.zero_le _
  · have e : (i == 0) = false := by
      rw [beq_eq_false_iff_ne]
      exact z
    rw [e]
    show i.natAbs.log2 + 1 ≤ k
    have : i.natAbs ≠ 0 := by omega
    exact (Nat.log2_lt this).mpr h
theorem weight_ints {k : Nat} : ∀ {ns : List Int}, (∀ n ∈ ns, n.natAbs < 2 ^ k) → PyData.weightAll (ns.map .int) ≤ (k + 1) * ns.length
  | [], _ => Nat.zero_le _
  | n :: ns, h => by
    have ih := weight_ints fun x hx => h x (List.mem_cons_of_mem _ hx)
    have w := weight_int (h n List.mem_cons_self)
    show PyData.weight (.int n) + 1 + PyData.weightAll (ns.map .int) ≤ _
    rw [List.length_cons, Nat.mul_add, Nat.mul_one]
    omega
theorem weight_sumD (m : Nat) : (sumD m).weight ≤ 441 := by
  have h := weight_ints (k := 6) (ns := (bts m).map Int.ofNat) fun n hn => by
    obtain ⟨u, hu, rfl⟩ := List.mem_map.mp hn
    have := (mem_bts.mp hu).1
    show u < 2 ^ 6
    omega
  have l := bts_len m
  rw [List.length_map] at h
  show PyData.weightAll _ ≤ 441
  omega
theorem weight_sumsAll : ∀ ms : List Nat, PyData.weightAll (ms.map sumD) ≤ 442 * ms.length
  | [] => Nat.zero_le _
  | m :: ms => by
    have ih := weight_sumsAll ms
    have w := weight_sumD m
    show (sumD m).weight + 1 + PyData.weightAll (ms.map sumD) ≤ _
    rw [List.length_cons]
    omega
theorem weight_sumsD {ms : List Nat} (h : ms.length ≤ 1000) : (sumsD ms).weight ≤ 2 ^ 20 := by
  have := weight_sumsAll ms
  show PyData.weightAll (ms.map sumD) ≤ _
  omega
theorem weight_optD (o : Option Nat) : (optD o).weight ≤ 2 ^ 20 := by
  cases o with
  | none => exact Nat.zero_le _
  | some u => exact Nat.le_trans (weight_sumD u) (by decide)
theorem shaped_sumD (m : Nat) : SeqAt.shaped (sumD m) = true := nice_shaped (nice_sumD m) (by rw [depth_sumD]; decide)
theorem eqv_sumD (m : Nat) : PyData.eqv (sumD m) (sumD m) = true := eqv_ints _
theorem sumD_zero : sumD 0 = .tuple [] := by
  unfold sumD
  rw [bts_zero]
  rfl
theorem dp_zero {K : PySem.W.Frag} {H : Hp} {a : Addr} (h : SqT K H a []) : Dp K H (.ref a) (sumD 0) := by
  rw [sumD_zero]
  exact .tup h .nil
theorem eqv_ints_iff : ∀ {xs ys : List Int}, PyData.eqvAll (xs.map .int) (ys.map .int) = true → xs = ys
  | [], [], _ => rfl
  | [], y :: ys, h => by cases h
  | x :: xs, [], h => by cases h
  | x :: xs, y :: ys, h => by
    have h : (PyData.eqv (.int x) (.int y) && PyData.eqvAll (xs.map .int) (ys.map .int)) = true := h
    rw [Bool.and_eq_true] at h
    have h1 : x = y := beq_iff_eq.mp h.1
    rw [h1, eqv_ints_iff h.2]
theorem eqv_sumD_iff {a b : Nat} (ha : a < 2 ^ 63) (hb : b < 2 ^ 63) (h : PyData.eqv (sumD a) (sumD b) = true) : a = b := by
  have h := eqv_ints_iff (show PyData.eqvAll _ _ = true from h)
  refine bts_inj ha hb ?_
  exact (List.map_inj_right (fun a b h => Int.ofNat.inj h)).mp h
theorem xall_pick (ms : List Nat) (u : Nat) : xall ((bts u).map fun k => ms.getD k 0) = pick ms u := by
  have go : ∀ n, xall (((List.range n).filter fun k => u.testBit k).map fun k => ms.getD k 0) = xsum (fun k => if u.testBit k then ms.getD k 0 else 0) n := by
    intro n
    induction n with
    | zero => rfl
    | succ n ih =>
      rw [List.range_succ, List.filter_append, List.map_append]
      show xall _ = xsum _ n ^^^ (if u.testBit n = true then ms.getD n 0 else 0)
      rw [← ih]
      cases q : u.testBit n with
      | true => simp [q, xall]
      | false => simp [q, xall]
  exact go 63
theorem pick_lt {ms : List Nat} (h : ∀ m ∈ ms, m < 2 ^ 63) (u : Nat) : pick ms u < 2 ^ 63 := Spn.lt h (pick_span ms u)
theorem wsum_range (m : Nat) (bs : List Nat) : wsum m bs = ((List.range 63).map fun u => if m.testBit u = true then bs.getD u 0 else 0).sum := by
  unfold wsum bts
  generalize List.range 63 = l
  induction l with
  | nil => rfl
  | cons u l ih =>
    rw [List.filter_cons, List.map_cons, List.sum_cons, ← ih]
    cases q : m.testBit u with
    | true => simp
    | false => simp
theorem wsum_xor (a b : Nat) (bs : List Nat) : wsum (a ^^^ b) bs % 2 = (wsum a bs + wsum b bs) % 2 := by
  rw [wsum_range, wsum_range, wsum_range]
  generalize List.range 63 = l
  induction l with
  | nil => rfl
  | cons u l ih =>
    simp only [List.map_cons, List.sum_cons]
    generalize (List.map (fun u => if (a ^^^ b).testBit u = true then bs.getD u 0 else 0) l).sum = x at ih ⊢
    generalize (List.map (fun u => if a.testBit u = true then bs.getD u 0 else 0) l).sum = y at ih ⊢
    generalize (List.map (fun u => if b.testBit u = true then bs.getD u 0 else 0) l).sum = z at ih ⊢
    generalize bs.getD u 0 = w
    rw [Nat.testBit_xor]
    cases a.testBit u <;> cases b.testBit u <;> simp <;> omega
theorem wsum_zero (bs : List Nat) : wsum 0 bs = 0 := by
  unfold wsum
  rw [bts_zero]
  rfl
theorem wsum_all (bs : List Nat) (ms : List Nat) : ((ms.map fun m => wsum m bs % 2).sum) % 2 = wsum (xall ms) bs % 2 := by
  suffices h : ∀ n, ∀ ms : List Nat, ms.length = n → ((ms.map fun m => wsum m bs % 2).sum) % 2 = wsum (xall ms) bs % 2 from h _ ms rfl
  intro n
  induction n with
  | zero =>
    intro ms hl
    have : ms = [] := List.length_eq_zero_iff.mp hl
    subst this
    show 0 % 2 = wsum 0 bs % 2
    rw [wsum_zero]
  | succ n ih =>
    intro ms hl
    have hne : ms ≠ [] := by intro z; subst z; cases hl
    obtain ⟨pre, m, rfl⟩ : ∃ pre m, ms = pre ++ [m] := ⟨ms.dropLast, ms.getLast hne, (List.dropLast_concat_getLast hne).symm⟩
    have h := ih pre (by simpa using hl)
    rw [xall_snoc, wsum_xor, List.map_append, List.sum_append]
    simp only [List.map_cons, List.map_nil, List.sum_cons, List.sum_nil]
    omega
theorem cut_take (xs : List V) (j : Nat) : cutV xs none (some (j : Int)) = xs.take j := by
  unfold cutV
  have e1 : HT.sIx xs.length 0 none = 0 := HT.sIx_none _ _
  have e2 : HT.sIx xs.length xs.length (some (j : Int)) = min j xs.length := HT.sIx_nat _ _ _
  rw [e1, e2, Nat.sub_zero, List.drop_zero]
  by_cases h : j ≤ xs.length
  · rw [Nat.min_eq_left h]
  · rw [Nat.min_eq_right (by omega), List.take_length, List.take_of_length_le (by omega)]
theorem BagAt.mut {K : PySem.W.Frag} {H0 H : Hp} {b c D : Addr} {o : HO} (B0 : BagAt K H0 b c) (n : H0 D = none) (B : BagAt K H b c) : BagAt K (upd H D o) b c := by
  obtain ⟨x0, y0, z0, cs0, h01, h02, h03, _, _, _, _, p1, p2⟩ := B0
  obtain ⟨x, y, z, cs, h1, h2, h3, q1, q2, q3, q4, q5, q6⟩ := B
  have nb : b ≠ D := ne_of_none h01 n
  have hb : (upd H D o) b = some (.lst [.int x, .int y, .int z, .ref c]) := by rw [upd_ne nb]; exact h1
  rcases h02 with h02 | h02
  · have nc : c ≠ D := by
      rcases h02 with h | ⟨u, h⟩
      · exact ne_of_none h n
      · exact ne_of_none h n
    refine ⟨x, y, z, cs, hb, ?_, h3, q1, q2, q3, q4, q5, q6⟩
    rcases h2 with (h | ⟨u, h⟩) | h
    · exact .inl (.inl (by rw [upd_ne nc]; exact h))
    · exact .inl (.inr ⟨u, by rw [upd_ne nc]; exact h⟩)
    · exact .inr h
  · exact ⟨x, y, z, cs0, hb, .inr h02, h3, q1, q2, q3, q4, p1, p2⟩
theorem but_mut {b : Addr} {H0 H : Hp} {D : Addr} {o : HO} (s : But b H0 H) (n : H0 D = none) : But b H0 (upd H D o) := fun a x na e => by
  rw [upd_ne (ne_of_none e n)]
  exact s a x na e
theorem indep_eq (ms : List Nat) : indep ms = (List.range ms.length).filter fun k => decide (k ∉ (elim ms).2.1.map (·.1)) := rfl
theorem lot_facts {ms : List Nat} (hm : ∀ x ∈ ms, x < 2 ^ 63) (hl : ms.length ≤ 62) : (lotOf ms = none → lrank ms = ms.length) ∧ (∀ u, lotOf ms = some u → u ≠ 0 ∧ u < 2 ^ ms.length ∧ pick ms u = 0) := by
  have O := elim_ok ms hm hl
  unfold lotOf
  cases e : (elim ms).2.1 with
  | nil => exact ⟨fun _ => indep_all hm hl e, fun u h => by cases h⟩
  | cons l ls =>
    refine ⟨(fun h => by cases h), fun u h => ?_⟩
    have h : l.2 = u := Option.some.inj h
    subst h
    obtain ⟨_, h2, h3, h4⟩ := O.lots l (by rw [e]; exact List.mem_cons_self)
    exact ⟨h2, h3, h4⟩
theorem iv_take {l : List Nat} (i : Nat) : (iv l).take i = iv (l.take i) := by
  unfold iv
  rw [List.map_take]
theorem dp_iv {K : PySem.W.Frag} {H : Hp} {a : Addr} {l : List Nat} (h : SqL K H a (iv l)) : Dp K H (.ref a) (.list ((l.map Int.ofNat).map .int)) := by
  rw [iv_ints] at h
  exact dp_list h
theorem nice_iv {l : List Nat} (h : ∀ n ∈ l, n < 10 ^ 12) : nice (.list ((l.map Int.ofNat).map .int)) = true := nice_ints fun n hn => by
  obtain ⟨u, hu, rfl⟩ := List.mem_map.mp hn
  exact h u hu
theorem depth_iv (l : List Nat) : (PyData.list ((l.map Int.ofNat).map .int)).depth ≤ 40 := by
  show PyData.depthAll _ + 1 ≤ 40
  rw [depth_ints]
  decide
theorem weight_iv {l : List Nat} (h : ∀ n ∈ l, n < 2 ^ 40) (hl : l.length ≤ 1000) : (PyData.list ((l.map Int.ofNat).map .int)).weight ≤ 2 ^ 20 := by
  have w := weight_ints (k := 40) (ns := l.map Int.ofNat) fun n hn => by
    obtain ⟨u, hu, rfl⟩ := List.mem_map.mp hn
    exact h u hu
  rw [List.length_map] at w
  show PyData.weightAll _ ≤ _
  omega
theorem paired_take {α β : Type} {R : α → β → Prop} : ∀ {xs : List α} {ys : List β} (n : Nat), PySem.Paired R xs ys → PySem.Paired R (xs.take n) (ys.take n)
  | _, _, 0, _ => .nil
  | _, _, n + 1, .nil => .nil
  | _, _, n + 1, .cons h t => .cons h (paired_take n t)
theorem pairD_facts (m r : Nat) (hr : r ≤ 1000) : nice (.list [sumD m, .int (r : Int)]) = true ∧ (PyData.list [sumD m, .int (r : Int)]).depth ≤ 40 ∧ (PyData.list [sumD m, .int (r : Int)]).weight ≤ 2 ^ 20 := by
  refine ⟨?_, ?_, ?_⟩
  · refine niceAll_iff.mpr fun x hx => ?_
    rcases List.mem_cons.mp hx with rfl | hx
    · exact nice_sumD m
    · rcases List.mem_cons.mp hx with rfl | hx
      · refine decide_eq_true ?_
        show r < 10 ^ 12
        exact Nat.lt_of_le_of_lt hr (by decide)
      · cases hx
  · show max (sumD m).depth (max 0 0) + 1 ≤ 40
    rw [depth_sumD]
    decide
  · have w := weight_sumD m
    have w2 : PyData.weight (.int (r : Int)) ≤ 10 := weight_int (show r < 2 ^ 10 by omega)
    show (sumD m).weight + 1 + (PyData.weight (.int (r : Int)) + 1 + 0) ≤ 2 ^ 20
    omega
theorem ivD_facts {l : List Nat} (h : ∀ n ∈ l, n < 10 ^ 9) (hl : l.length ≤ 1000) : nice (.list ((l.map Int.ofNat).map .int)) = true ∧ (PyData.list ((l.map Int.ofNat).map .int)).depth ≤ 40 ∧ (PyData.list ((l.map Int.ofNat).map .int)).weight ≤ 2 ^ 20 :=
  ⟨nice_iv fun n hn => Nat.lt_trans (h n hn) (by decide), depth_iv l, weight_iv (fun n hn => Nat.lt_trans (h n hn) (by decide)) hl⟩
def tVia (t : TE) : TE := fun σ H Q => ∃ Mid : V → Hp → Prop, t σ H Mid ∧ ∀ v H', Mid v H' → Q v H'
theorem pe_via {X : Cx} {e : Expr} {t : TE} (he : PE X e t) : PE X e (tVia t) :=
  ⟨fun pins s σ H Q I ⟨Mid, h, k⟩ => thn (he.run pins s σ H Mid I h) fun v s1 ⟨x, H1, I1, r1, q1⟩ => ⟨x, H1, I1, r1, k _ _ q1⟩⟩
def sp_law (K : PySem.W.Frag) : Sp := fun vs H Q _ => ∃ (a : Addr) (ns : List Int), vs = [.ref a] ∧ SqL K H a (ns.map V.int) ∧ ns.length ≤ 63 ∧ ∀ H', Q (.bl true) H'
structure SumsAt (K : PySem.W.Frag) (H : Hp) (b c a : Addr) (n : Nat) (us : List V) (ms : List Nat) : Prop where
  bag : BagAt K H b c
  ne : a ≠ b
  at_ : H a = some (.lst us)
  sums : Paired (SumV K H) us ms
  lt : ∀ m ∈ ms, m < 2 ^ n
theorem SumsAt.but {K : PySem.W.Frag} {H H' : Hp} {b c a : Addr} {n : Nat} {us : List V} {ms : List Nat} (S : SumsAt K H b c a n us ms) (s : But b H H') (B : BagAt K H' b c) : SumsAt K H' b c a n us ms :=
  ⟨B, S.ne, s _ _ S.ne S.at_, sums_bag S.bag s S.sums, S.lt⟩
theorem SumsAt.same {K : PySem.W.Frag} {H H' : Hp} {b c a : Addr} {n : Nat} {us : List V} {ms : List Nat} (S : SumsAt K H b c a n us ms) (s : Same H H') : SumsAt K H' b c a n us ms := S.but (But.same s) (S.bag.same s)
theorem SumsAt.mut {K : PySem.W.Frag} {H0 H : Hp} {b c a D : Addr} {n : Nat} {us ys : List V} {ms : List Nat} {o : HO} (B0 : BagAt K H0 b c) (nD : H0 D = none) (na : a ≠ D) (eD : H D = some (.lst ys)) (S : SumsAt K H b c a n us ms) : SumsAt K (upd H D o) b c a n us ms :=
  ⟨BagAt.mut B0 nD S.bag, S.ne, by rw [upd_ne na]; exact S.at_, sums_but eD But.at_ S.sums, S.lt⟩
theorem SumsAt.push {K : PySem.W.Frag} {H0 H : Hp} {b c a : Addr} {n m : Nat} {us : List V} {ms : List Nat} {v : V} (B0 : BagAt K H0 b c) (na : H0 a = none) (S : SumsAt K H b c a n us ms) (hv : SumV K H v m) (hm : m < 2 ^ n) : SumsAt K (upd H a (.lst (us ++ [v]))) b c a n (us ++ [v]) (ms ++ [m]) :=
  ⟨BagAt.mut B0 na S.bag, S.ne, upd_same, PySem.Paired.snoc (sums_but S.at_ But.at_ S.sums) (hv.but S.at_ But.at_), fun x hx => by
    rcases List.mem_append.mp hx with hx | hx
    · exact S.lt x hx
    · have hx : x = m := by simpa using hx
      rw [hx]; exact hm⟩
theorem SumsAt.few {K : PySem.W.Frag} {H : Hp} {b c a : Addr} {n : Nat} {us : List V} {ms : List Nat} (S : SumsAt K H b c a n us ms) (hn : n ≤ 62) (hl : us.length ≤ 62) : Sums K H a us ms :=
  ⟨.inl (.inl S.at_), S.sums, fun m hm => Nat.lt_of_lt_of_le (S.lt m hm) (Nat.pow_le_pow_right (by decide) (by omega)), by rw [← Paired.len S.sums]; exact hl⟩
theorem xall_below {n : Nat} {ms : List Nat} (hn : ∀ m ∈ ms, m < 2 ^ n) : xall ms < 2 ^ n := by
  have go : ∀ (l : List Nat) (x : Nat), x < 2 ^ n → (∀ m ∈ l, m < 2 ^ n) → l.foldl (· ^^^ ·) x < 2 ^ n := by
    intro l
    induction l with
    | nil => intro x hx _; exact hx
    | cons m l ih =>
      intro x hx hl
      exact ih _ (Nat.xor_lt_two_pow hx (hl m List.mem_cons_self)) fun y hy => hl y (List.mem_cons_of_mem _ hy)
  exact go ms 0 (Nat.two_pow_pos n) hn
end Es
namespace Es
structure FlatOk (hs : List (Nat × Nat × Nat)) : Prop where
  red : RedOk hs
  least : ∀ e ∈ hs, low e.2.1 = some e.1
  bit : ∀ e ∈ hs, e.2.2 < 2
theorem flat_nil : FlatOk [] :=
  ⟨⟨List.nodup_nil, (fun e h => by cases h), (fun e h => by cases h)⟩, (fun e h => by cases h), (fun e h => by cases h)⟩
theorem bit_xor {a b : Nat} (ha : a < 2) (hb : b < 2) : a ^^^ b < 2 := Nat.xor_lt_two_pow (n := 1) ha hb
theorem look_of {hs : List (Nat × Nat × Nat)} (nd : (hs.map (·.1)).Nodup) {e : Nat × Nat × Nat} (h : e ∈ hs) : look hs e.1 = some e.2 := by
  cases q : look hs e.1 with
  | none => exact absurd (List.mem_map.mpr ⟨e, h, rfl⟩) (look_none.mp q)
  | some p =>
    have h1 := look_mem q
    obtain ⟨i1, l1, e1⟩ := List.mem_iff_getElem.mp h1
    obtain ⟨i2, l2, e2⟩ := List.mem_iff_getElem.mp h
    have : i1 = i2 := (List.getElem_inj nd (h₀ := by rw [List.length_map]; exact l1) (h₁ := by rw [List.length_map]; exact l2)).mp (by rw [List.getElem_map, List.getElem_map, e1, e2])
    subst this
    rw [e1] at e2
    rw [← e2]
def wh1 (m : Nat) (r : Nat × Nat) (e : Nat × Nat × Nat) : Nat × Nat := if m.testBit e.1 = true then (r.1 ^^^ e.2.1, r.2 ^^^ e.2.2) else r
def wh (hs : List (Nat × Nat × Nat)) (l : Nat × Nat) : Nat × Nat := hs.foldl (wh1 l.1) l
theorem wh1_comm (m : Nat) (z : Nat × Nat) (x y : Nat × Nat × Nat) : wh1 m (wh1 m z x) y = wh1 m (wh1 m z y) x := by
  have x3 : ∀ a b c : Nat, a ^^^ b ^^^ c = a ^^^ c ^^^ b := fun a b c => by rw [Nat.xor_assoc, Nat.xor_comm b c, ← Nat.xor_assoc]
  unfold wh1
  by_cases h1 : m.testBit x.1 = true
  · by_cases h2 : m.testBit y.1 = true
    · rw [if_pos h1, if_pos h1, if_pos h2, if_pos h2]
      show ((_, _) : Nat × Nat) = (_, _)
      rw [x3 z.1, x3 z.2]
    · rw [if_pos h1, if_neg h2, if_neg h2, if_pos h1]
  · by_cases h2 : m.testBit y.1 = true
    · rw [if_neg h1, if_pos h2, if_neg h1]
    · rw [if_neg h1, if_neg h2, if_neg h1]
theorem wh_perm {hs gs : List (Nat × Nat × Nat)} (p : hs.Perm gs) (l : Nat × Nat) : wh hs l = wh gs l :=
  p.foldl_eq' (fun x _ y _ z => wh1_comm l.1 z x y) l
def byHead (hs : List (Nat × Nat × Nat)) : List (Nat × Nat × Nat) := (srt (hs.map (·.1))).map fun h => (h, (look hs h).getD (0, 0))
theorem nodup_of_map {hs : List (Nat × Nat × Nat)} (nd : (hs.map (·.1)).Nodup) : hs.Nodup := by
  induction hs with
  | nil => exact List.nodup_nil
  | cons e hs ih =>
    rw [List.map_cons, List.nodup_cons] at nd
    exact List.nodup_cons.mpr ⟨fun z => nd.1 (List.mem_map.mpr ⟨e, z, rfl⟩), ih nd.2⟩
theorem byHead_keys {hs : List (Nat × Nat × Nat)} : (byHead hs).map (·.1) = srt (hs.map (·.1)) := by
  unfold byHead
  rw [List.map_map]
  exact List.map_id _
theorem byHead_perm {hs : List (Nat × Nat × Nat)} (R : RedOk hs) : (byHead hs).Perm hs := by
  refine (List.perm_ext_iff_of_nodup ?_ (nodup_of_map R.nd)).mpr fun e => ?_
  · refine nodup_of_map ?_
    rw [byHead_keys]
    exact (srt_lt _).imp fun h => Nat.ne_of_lt h
  · unfold byHead
    rw [List.mem_map]
    constructor
    · rintro ⟨h, hh, rfl⟩
      obtain ⟨_, h2⟩ := mem_srt.mp hh
      obtain ⟨e, he, rfl⟩ := List.mem_map.mp h2
      rw [look_of R.nd he]
      exact he
    · intro he
      refine ⟨e.1, mem_srt.mpr ⟨(R.own e he).1, List.mem_map.mpr ⟨e, he, rfl⟩⟩, ?_⟩
      rw [look_of R.nd he]
      rfl
theorem wh_fold {hs : List (Nat × Nat × Nat)} (R : RedOk hs) (m : Nat) : ∀ (S : List Nat) (r : Nat × Nat), S.Nodup → (∀ h ∈ S, h ∈ hs.map (·.1)) → (∀ h ∈ S, r.1.testBit h = m.testBit h) →
    S.foldl (lred1 hs) r = (S.map fun h => (h, (look hs h).getD (0, 0))).foldl (wh1 m) r
  | [], _, _, _, _ => rfl
  | h :: S, r, nd, hk, hb => by
    obtain ⟨n1, n2⟩ := List.nodup_cons.mp nd
    rw [List.foldl_cons, List.map_cons, List.foldl_cons]
    obtain ⟨e, he, ee⟩ := List.mem_map.mp (hk h List.mem_cons_self)
    have lk : look hs h = some e.2 := by rw [← ee]; exact look_of R.nd he
    have step : lred1 hs r h = wh1 m r (h, (look hs h).getD (0, 0)) := by
      unfold lred1 wh1
      rw [lk, hb h List.mem_cons_self]
      rfl
    rw [← step]
    refine wh_fold R m S (lred1 hs r h) n2 (fun g hg => hk g (List.mem_cons_of_mem _ hg)) fun g hg => ?_
    have ng : g ≠ e.1 := fun z => n1 (by rw [← ee, ← z]; exact hg)
    have eb : e.2.1.testBit g = false := R.oth e he g (hk g (List.mem_cons_of_mem _ hg)) ng
    have rb := hb g (List.mem_cons_of_mem _ hg)
    unfold lred1
    rw [lk]
    split
    · show (r.1 ^^^ e.2.1).testBit g = _
      rw [Nat.testBit_xor, eb, Bool.xor_false, rb]
    · exact rb
theorem wh_lred {hs : List (Nat × Nat × Nat)} (R : RedOk hs) (p : Nat × Nat) : wh hs p = lred hs p := by
  rw [← wh_perm (byHead_perm R)]
  unfold wh byHead lred
  exact (wh_fold R p.1 _ p ((srt_lt _).imp fun h => Nat.ne_of_lt h) (fun h hh => (mem_srt.mp hh).2) (fun h _ => rfl)).symm
theorem wh_bit {hs : List (Nat × Nat × Nat)} (B : ∀ e ∈ hs, e.2.2 < 2) (l : Nat × Nat) (hl : l.2 < 2) : (wh hs l).2 < 2 := by
  have go : ∀ (gs : List (Nat × Nat × Nat)) (r : Nat × Nat), (∀ e ∈ gs, e.2.2 < 2) → r.2 < 2 → (gs.foldl (wh1 l.1) r).2 < 2 := by
    intro gs
    induction gs with
    | nil => intro r _ h; exact h
    | cons e gs ih =>
      intro r hb h
      refine ih _ (fun x hx => hb x (List.mem_cons_of_mem _ hx)) ?_
      unfold wh1
      split
      · exact bit_xor h (hb e List.mem_cons_self)
      · exact h
  exact go hs l B hl
theorem wh_lt {n : Nat} {hs : List (Nat × Nat × Nat)} (B : ∀ e ∈ hs, e.2.1 < 2 ^ n) (l : Nat × Nat) (hl : l.1 < 2 ^ n) : (wh hs l).1 < 2 ^ n := by
  have go : ∀ (gs : List (Nat × Nat × Nat)) (r : Nat × Nat), (∀ e ∈ gs, e.2.1 < 2 ^ n) → r.1 < 2 ^ n → (gs.foldl (wh1 l.1) r).1 < 2 ^ n := by
    intro gs
    induction gs with
    | nil => intro r _ h; exact h
    | cons e gs ih =>
      intro r hb h
      refine ih _ (fun x hx => hb x (List.mem_cons_of_mem _ hx)) ?_
      unfold wh1
      split
      · exact Nat.xor_lt_two_pow h (hb e List.mem_cons_self)
      · exact h
  exact go hs l B hl
theorem wh_heads {hs : List (Nat × Nat × Nat)} (R : RedOk hs) {p : Nat × Nat} (hp : p.1 < 2 ^ 63) : (wh hs p).1 < 2 ^ 63 ∧ ∀ h ∈ hs.map (·.1), (wh hs p).1.testBit h = false := by
  rw [wh_lred R]
  obtain ⟨a, _, c⟩ := lred_spec R hp
  exact ⟨a, c⟩
theorem lput_flat {hs : List (Nat × Nat × Nat)} (F : FlatOk hs) {p : Nat × Nat} {a : Nat} (hp : p.1 < 2 ^ 63) (hl : low p.1 = some a) (no : ∀ h ∈ hs.map (·.1), p.1.testBit h = false) (hb : p.2 < 2) : FlatOk (lput hs a p) := by
  obtain ⟨a1, a2, a3⟩ := low_iff.mp hl
  refine ⟨(lput_ok F.red hp hl no).1, fun e he => ?_, fun e he => ?_⟩
  · unfold lput at he
    rcases List.mem_append.mp he with he | he
    · obtain ⟨e0, h0, rfl⟩ := List.mem_map.mp he
      have l0 := F.least e0 h0
      obtain ⟨b1, b2, b3⟩ := low_iff.mp l0
      by_cases hb : e0.2.1.testBit a = true
      · rw [if_pos hb]
        refine low_xor l0 hl ?_
        have ne : e0.1 ≠ a := fun z => by
          have := no e0.1 (List.mem_map.mpr ⟨e0, h0, rfl⟩)
          rw [z, a2] at this
          cases this
        refine Nat.lt_of_le_of_ne (Nat.le_of_not_lt fun z => ?_) ne
        rw [b3 a z] at hb
        cases hb
      · rw [if_neg hb]
        exact l0
    · have he : e = (a, p.1, p.2) := by simpa using he
      rw [he]
      exact hl
  · unfold lput at he
    rcases List.mem_append.mp he with he | he
    · obtain ⟨e0, h0, rfl⟩ := List.mem_map.mp he
      split
      · exact bit_xor (F.bit e0 h0) hb
      · exact F.bit e0 h0
    · have he : e = (a, p.1, p.2) := by simpa using he
      rw [he]
      exact hb
theorem lput_lt {n : Nat} {hs : List (Nat × Nat × Nat)} {p : Nat × Nat} {a : Nat} (B : ∀ e ∈ hs, e.2.1 < 2 ^ n) (hp : p.1 < 2 ^ n) : ∀ e ∈ lput hs a p, e.2.1 < 2 ^ n := fun e he => by
  unfold lput at he
  rcases List.mem_append.mp he with he | he
  · obtain ⟨e0, h0, rfl⟩ := List.mem_map.mp he
    split
    · exact Nat.xor_lt_two_pow (B e0 h0) hp
    · exact B e0 h0
  · have he : e = (a, p.1, p.2) := by simpa using he
    rw [he]
    exact hp
theorem lstep_eq {hs : List (Nat × Nat × Nat)} (R : RedOk hs) (l : Nat × Nat) : lstep hs l = match low (wh hs l).1 with
    | none => if (wh hs l).2 = 1 then none else some hs
    | some a => some (lput hs a (wh hs l)) := by
  unfold lstep
  rw [wh_lred R]
  first
    | done
    | (cases low (lred hs l).1 <;> rfl)
theorem lstep_flat {hs gs : List (Nat × Nat × Nat)} (F : FlatOk hs) {l : Nat × Nat} (hl : l.1 < 2 ^ 63) (hb : l.2 < 2) (e : lstep hs l = some gs) : FlatOk gs := by
  rw [lstep_eq F.red] at e
  obtain ⟨w1, w2⟩ := wh_heads F.red hl
  cases q : low (wh hs l).1 with
  | none =>
    rw [q] at e
    by_cases z : (wh hs l).2 = 1
    · simp [z] at e
    · simp [z] at e
      rw [← e]; exact F
  | some a =>
    rw [q] at e
    have e := Option.some.inj e
    rw [← e]
    exact lput_flat F w1 q w2 (wh_bit F.bit l hb)
theorem lstep_lt {n : Nat} {hs gs : List (Nat × Nat × Nat)} (R : RedOk hs) (B : ∀ e ∈ hs, e.2.1 < 2 ^ n) {l : Nat × Nat} (hl : l.1 < 2 ^ n) (e : lstep hs l = some gs) : ∀ x ∈ gs, x.2.1 < 2 ^ n := by
  rw [lstep_eq R] at e
  cases q : low (wh hs l).1 with
  | none =>
    rw [q] at e
    by_cases z : (wh hs l).2 = 1
    · simp [z] at e
    · simp [z] at e
      rw [← e]; exact B
  | some a =>
    rw [q] at e
    have e := Option.some.inj e
    rw [← e]
    exact lput_lt B (wh_lt B l hl)
theorem snoc_ind {P : List (Nat × Nat) → Prop} (h0 : P []) (h1 : ∀ ls l, P ls → P (ls ++ [l])) (ls : List (Nat × Nat)) : P ls := by
  have go : ∀ n (ls : List (Nat × Nat)), ls.length = n → P ls := by
    intro n
    induction n with
    | zero => intro ls h; rw [List.length_eq_zero_iff.mp h]; exact h0
    | succ n ih =>
      intro ls h
      have hne : ls ≠ [] := by intro z; subst z; cases h
      obtain ⟨pre, m, rfl⟩ : ∃ pre m, ls = pre ++ [m] := ⟨ls.dropLast, ls.getLast hne, (List.dropLast_concat_getLast hne).symm⟩
      exact h1 pre m (ih pre (by simpa using h))
  exact go _ ls rfl
theorem lflat_flat (ls : List (Nat × Nat)) : (∀ l ∈ ls, l.1 < 2 ^ 63 ∧ l.2 < 2) → ∀ hs, lflat ls = some hs → FlatOk hs := by
  refine snoc_ind (P := fun ls => (∀ l ∈ ls, l.1 < 2 ^ 63 ∧ l.2 < 2) → ∀ hs, lflat ls = some hs → FlatOk hs) ?_ ?_ ls
  · intro _ hs e
    have e : some [] = some hs := e
    rw [← Option.some.inj e]
    exact flat_nil
  · intro ls l ih hl hs e
    rw [lflat_snoc] at e
    cases q : lflat ls with
    | none => rw [q] at e; cases e
    | some gs =>
      rw [q] at e
      have F := ih (fun x hx => hl x (List.mem_append_left _ hx)) gs q
      obtain ⟨h1, h2⟩ := hl l (List.mem_append_right _ List.mem_cons_self)
      exact lstep_flat F h1 h2 e
theorem lflat_lt {n : Nat} (hn : n ≤ 63) (ls : List (Nat × Nat)) : (∀ l ∈ ls, l.1 < 2 ^ n ∧ l.2 < 2) → ∀ hs, lflat ls = some hs → ∀ e ∈ hs, e.2.1 < 2 ^ n := by
  refine snoc_ind (P := fun ls => (∀ l ∈ ls, l.1 < 2 ^ n ∧ l.2 < 2) → ∀ hs, lflat ls = some hs → ∀ e ∈ hs, e.2.1 < 2 ^ n) ?_ ?_ ls
  · intro _ hs e
    have e : some [] = some hs := e
    rw [← Option.some.inj e]
    intro x hx
    cases hx
  · intro ls l ih hl hs e
    rw [lflat_snoc] at e
    cases q : lflat ls with
    | none => rw [q] at e; cases e
    | some gs =>
      rw [q] at e
      have F := lflat_flat ls (fun x hx => by
        obtain ⟨a, b⟩ := hl x (List.mem_append_left _ hx)
        exact ⟨Nat.lt_of_lt_of_le a (Nat.pow_le_pow_right (by decide) hn), b⟩) gs q
      exact lstep_lt F.red (ih (fun x hx => hl x (List.mem_append_left _ hx)) gs q) (hl l (List.mem_append_right _ List.mem_cons_self)).1 e
def parL (m : Nat) (f : Nat → Bool) (L : List Nat) : Bool := L.foldl (fun b u => b ^^ (m.testBit u && f u)) false
def par (m : Nat) (f : Nat → Bool) : Bool := parL m f (List.range 63)
def holdsL (l : Nat × Nat) (f : Nat → Bool) : Prop := par l.1 f = decide (l.2 = 1)
theorem parL_xor (a b : Nat) (f : Nat → Bool) (L : List Nat) : parL (a ^^^ b) f L = (parL a f L ^^ parL b f L) := by
  have go : ∀ (L : List Nat) (x y : Bool), L.foldl (fun c u => c ^^ ((a ^^^ b).testBit u && f u)) (x ^^ y) = (L.foldl (fun c u => c ^^ (a.testBit u && f u)) x ^^ L.foldl (fun c u => c ^^ (b.testBit u && f u)) y) := by
    intro L
    induction L with
    | nil => intro x y; rfl
    | cons u L ih =>
      intro x y
      rw [List.foldl_cons, List.foldl_cons, List.foldl_cons, ← ih]
      congr 1
      rw [Nat.testBit_xor]
      cases a.testBit u <;> cases b.testBit u <;> cases f u <;> cases x <;> cases y <;> rfl
  exact go L false false
theorem par_xor (a b : Nat) (f : Nat → Bool) : par (a ^^^ b) f = (par a f ^^ par b f) := parL_xor a b f _
theorem bit_dec {a b : Nat} (ha : a < 2) (hb : b < 2) : decide (a ^^^ b = 1) = (decide (a = 1) ^^ decide (b = 1)) := by
  have ha : a = 0 ∨ a = 1 := by omega
  have hb : b = 0 ∨ b = 1 := by omega
  rcases ha with rfl | rfl <;> rcases hb with rfl | rfl <;> rfl
theorem holds_xor {l k : Nat × Nat} {f : Nat → Bool} (hl : l.2 < 2) (hk : k.2 < 2) (h : holdsL k f) : holdsL (l.1 ^^^ k.1, l.2 ^^^ k.2) f ↔ holdsL l f := by
  unfold holdsL at *
  show par (l.1 ^^^ k.1) f = decide (l.2 ^^^ k.2 = 1) ↔ _
  rw [par_xor, bit_dec hl hk, h]
  cases par l.1 f <;> cases decide (l.2 = 1) <;> cases decide (k.2 = 1) <;> simp
def sol (hs : List (Nat × Nat × Nat)) (f : Nat → Bool) : Prop := ∀ e ∈ hs, holdsL e.2 f
theorem wh_holds {hs : List (Nat × Nat × Nat)} (B : ∀ e ∈ hs, e.2.2 < 2) {f : Nat → Bool} (s : sol hs f) {l : Nat × Nat} (hl : l.2 < 2) : holdsL (wh hs l) f ↔ holdsL l f := by
  have go : ∀ (gs : List (Nat × Nat × Nat)) (r : Nat × Nat), (∀ e ∈ gs, e.2.2 < 2) → sol gs f → r.2 < 2 → (holdsL (gs.foldl (wh1 l.1) r) f ↔ holdsL r f) := by
    intro gs
    induction gs with
    | nil => intro r _ _ _; exact Iff.rfl
    | cons e gs ih =>
      intro r hb hs hr
      have e2 := hb e List.mem_cons_self
      rw [List.foldl_cons]
      have st : (wh1 l.1 r e).2 < 2 ∧ (holdsL (wh1 l.1 r e) f ↔ holdsL r f) := by
        unfold wh1
        split
        · exact ⟨bit_xor hr e2, holds_xor hr e2 (hs e List.mem_cons_self)⟩
        · exact ⟨hr, Iff.rfl⟩
      exact (ih _ (fun x hx => hb x (List.mem_cons_of_mem _ hx)) (fun x hx => hs x (List.mem_cons_of_mem _ hx)) st.1).trans st.2
  exact go hs l B s hl
theorem lput_sol {hs : List (Nat × Nat × Nat)} (B : ∀ e ∈ hs, e.2.2 < 2) {p : Nat × Nat} (hp : p.2 < 2) (a : Nat) (f : Nat → Bool) : sol (lput hs a p) f ↔ sol hs f ∧ holdsL p f := by
  have hp1 : (sol (lput hs a p) f) → holdsL p f := fun s => s (a, p.1, p.2) (List.mem_append_right _ List.mem_cons_self)
  constructor
  · intro s
    refine ⟨fun e he => ?_, hp1 s⟩
    have h := s _ (List.mem_append_left _ (List.mem_map.mpr ⟨e, he, rfl⟩))
    by_cases hb : e.2.1.testBit a = true
    · rw [if_pos hb] at h
      exact (holds_xor (B e he) hp (hp1 s)).mp h
    · rw [if_neg hb] at h
      exact h
  · rintro ⟨s, h⟩ e he
    rcases List.mem_append.mp he with he | he
    · obtain ⟨e0, h0, rfl⟩ := List.mem_map.mp he
      by_cases hb : e0.2.1.testBit a = true
      · rw [if_pos hb]
        exact (holds_xor (B e0 h0) hp h).mpr (s e0 h0)
      · rw [if_neg hb]
        exact s e0 h0
    · have he : e = (a, p.1, p.2) := by simpa using he
      rw [he]
      exact h
theorem par_zero (f : Nat → Bool) : par 0 f = false := by
  unfold par parL
  have go : ∀ (L : List Nat), L.foldl (fun b u => b ^^ ((0 : Nat).testBit u && f u)) false = false := by
    intro L
    induction L with
    | nil => rfl
    | cons u L ih =>
      rw [List.foldl_cons, Nat.zero_testBit]
      exact ih
  exact go _
theorem lstep_some {hs gs : List (Nat × Nat × Nat)} (F : FlatOk hs) {l : Nat × Nat} (hl : l.1 < 2 ^ 63) (hb : l.2 < 2) (e : lstep hs l = some gs) (f : Nat → Bool) : sol gs f ↔ sol hs f ∧ holdsL l f := by
  rw [lstep_eq F.red] at e
  obtain ⟨w1, w2⟩ := wh_heads F.red hl
  have wb := wh_bit F.bit l hb
  cases q : low (wh hs l).1 with
  | none =>
    rw [q] at e
    have w0 := (low_none w1).mp q
    by_cases z : (wh hs l).2 = 1
    · simp [z] at e
    · simp [z] at e
      rw [← e]
      refine ⟨fun s => ⟨s, (wh_holds F.bit s hb).mp ?_⟩, fun s => s.1⟩
      unfold holdsL
      rw [w0, par_zero, decide_eq_false z]
  | some a =>
    rw [q] at e
    have e := Option.some.inj e
    rw [← e, lput_sol F.bit wb]
    exact ⟨fun ⟨s, h⟩ => ⟨s, (wh_holds F.bit s hb).mp h⟩, fun ⟨s, h⟩ => ⟨s, (wh_holds F.bit s hb).mpr h⟩⟩
theorem lstep_no {hs : List (Nat × Nat × Nat)} (F : FlatOk hs) {l : Nat × Nat} (hl : l.1 < 2 ^ 63) (hb : l.2 < 2) (e : lstep hs l = none) (f : Nat → Bool) (s : sol hs f) : ¬ holdsL l f := by
  rw [lstep_eq F.red] at e
  obtain ⟨w1, w2⟩ := wh_heads F.red hl
  cases q : low (wh hs l).1 with
  | none =>
    rw [q] at e
    have w0 := (low_none w1).mp q
    by_cases z : (wh hs l).2 = 1
    · intro h
      have h := (wh_holds F.bit s hb).mpr h
      unfold holdsL at h
      rw [w0, par_zero, decide_eq_true z] at h
      cases h
    · simp [z] at e
  | some a =>
    rw [q] at e
    cases e
theorem lflat_sol (ls : List (Nat × Nat)) : (∀ l ∈ ls, l.1 < 2 ^ 63 ∧ l.2 < 2) → (∀ hs, lflat ls = some hs → ∀ f, sol hs f ↔ ∀ l ∈ ls, holdsL l f) ∧ (lflat ls = none → ∀ f, ¬ ∀ l ∈ ls, holdsL l f) := by
  refine snoc_ind (P := fun ls => (∀ l ∈ ls, l.1 < 2 ^ 63 ∧ l.2 < 2) → (∀ hs, lflat ls = some hs → ∀ f, sol hs f ↔ ∀ l ∈ ls, holdsL l f) ∧ (lflat ls = none → ∀ f, ¬ ∀ l ∈ ls, holdsL l f)) ?_ ?_ ls
  · intro _
    refine ⟨fun hs e f => ?_, fun e => ?_⟩
    · have e : some [] = some hs := e
      rw [← Option.some.inj e]
      exact ⟨(fun _ l hl => by cases hl), (fun _ e he => by cases he)⟩
    · have e : some [] = none := e
      cases e
  · intro ls l ih hl
    have hl0 : ∀ x ∈ ls, x.1 < 2 ^ 63 ∧ x.2 < 2 := fun x hx => hl x (List.mem_append_left _ hx)
    obtain ⟨h1, h2⟩ := hl l (List.mem_append_right _ List.mem_cons_self)
    obtain ⟨i1, i2⟩ := ih hl0
    have split : ∀ f, (∀ x ∈ ls ++ [l], holdsL x f) ↔ (∀ x ∈ ls, holdsL x f) ∧ holdsL l f := fun f => by
      constructor
      · exact fun h => ⟨fun x hx => h x (List.mem_append_left _ hx), h l (List.mem_append_right _ List.mem_cons_self)⟩
      · rintro ⟨ha, hb⟩ x hx
        rcases List.mem_append.mp hx with hx | hx
        · exact ha x hx
        · have hx : x = l := by simpa using hx
          rw [hx]; exact hb
    rw [lflat_snoc]
    cases q : lflat ls with
    | none => exact ⟨fun hs e => (by cases e), fun _ f h => i2 q f ((split f).mp h).1⟩
    | some gs =>
      have F := lflat_flat ls hl0 gs q
      refine ⟨fun hs e f => ?_, fun e f h => ?_⟩
      · rw [lstep_some F h1 h2 e f, split, i1 gs q f]
      · obtain ⟨ha, hb⟩ := (split f).mp h
        exact lstep_no F h1 h2 e f ((i1 gs q f).mpr ha) hb
theorem par_single {m h : Nat} {f : Nat → Bool} (hh : h < 63) (no : ∀ u, u ≠ h → (m.testBit u && f u) = false) : par m f = (m.testBit h && f h) := by
  have go : ∀ (n : Nat) , parL m f (List.range n) = if h < n then (m.testBit h && f h) else false := by
    intro n
    induction n with
    | zero => rfl
    | succ n ih =>
      have st : parL m f (List.range (n + 1)) = (parL m f (List.range n) ^^ (m.testBit n && f n)) := by
        unfold parL
        rw [List.range_succ, List.foldl_append]
        rfl
      rw [st, ih]
      by_cases z : n = h
      · subst z
        rw [if_neg (Nat.lt_irrefl _), if_pos (Nat.lt_succ_self _), Bool.false_xor]
      · rw [no n z, Bool.xor_false]
        by_cases y : h < n
        · rw [if_pos y, if_pos (by omega)]
        · rw [if_neg y, if_neg (by omega)]
  have := go 63
  rw [if_pos hh] at this
  exact this
theorem flat_has {hs : List (Nat × Nat × Nat)} (F : FlatOk hs) : ∃ f : Nat → Bool, sol hs f := by
  refine ⟨fun u => match look hs u with | some q => decide (q.2 = 1) | none => false, fun e he => ?_⟩
  obtain ⟨o1, o2, o3⟩ := F.red.own e he
  unfold holdsL
  rw [par_single (h := e.1) o1 fun u nu => ?_]
  · rw [o3, look_of F.red.nd he]
    exact Bool.true_and _
  · cases q : look hs u with
    | none => exact Bool.and_false _
    | some p =>
      have := F.red.oth e he u (List.mem_map.mpr ⟨_, look_mem q, rfl⟩) nu
      rw [this]
      rfl
theorem flat_free {hs : List (Nat × Nat × Nat)} (F : FlatOk hs) {l : Nat × Nat} (hl : l.1 < 2 ^ 63) (hb : l.2 < 2) (nz : (wh hs l).1 ≠ 0) : ∃ f, sol hs f ∧ holdsL l f := by
  obtain ⟨w1, w2⟩ := wh_heads F.red hl
  obtain ⟨a, ha⟩ := low_some w1 nz
  have wb := wh_bit F.bit l hb
  obtain ⟨f, s⟩ := flat_has (lput_flat F w1 ha w2 wb)
  obtain ⟨s1, s2⟩ := (lput_sol F.bit wb a f).mp s
  exact ⟨f, s1, (wh_holds F.bit s1 hb).mp s2⟩
theorem flat_told {hs : List (Nat × Nat × Nat)} (F : FlatOk hs) {l : Nat × Nat} (hb : l.2 < 2) (z : (wh hs l).1 = 0) {f : Nat → Bool} (s : sol hs f) : holdsL l f ↔ (wh hs l).2 = 0 := by
  rw [← wh_holds F.bit s hb]
  unfold holdsL
  have wb := wh_bit F.bit l hb
  rw [z, par_zero]
  constructor
  · intro h
    have : ¬ (wh hs l).2 = 1 := fun y => by rw [decide_eq_true y] at h; cases h
    omega
  · intro h
    rw [h]
    rfl
theorem wh_row (hs : List (Nat × Nat × Nat)) (m a b : Nat) : (wh hs (m, a)).1 = (wh hs (m, b)).1 ∧ (wh hs (m, a)).2 ^^^ b = (wh hs (m, b)).2 ^^^ a := by
  have x3 : ∀ a b c : Nat, a ^^^ b ^^^ c = a ^^^ c ^^^ b := fun a b c => by rw [Nat.xor_assoc, Nat.xor_comm b c, ← Nat.xor_assoc]
  have go : ∀ (gs : List (Nat × Nat × Nat)) (r s : Nat × Nat), r.1 = s.1 → r.2 ^^^ b = s.2 ^^^ a → (gs.foldl (wh1 m) r).1 = (gs.foldl (wh1 m) s).1 ∧ (gs.foldl (wh1 m) r).2 ^^^ b = (gs.foldl (wh1 m) s).2 ^^^ a := by
    intro gs
    induction gs with
    | nil => intro r s h1 h2; exact ⟨h1, h2⟩
    | cons e gs ih =>
      intro r s h1 h2
      refine ih _ _ ?_ ?_
      · unfold wh1
        split
        · show r.1 ^^^ _ = s.1 ^^^ _
          rw [h1]
        · exact h1
      · unfold wh1
        split
        · show r.2 ^^^ e.2.2 ^^^ b = s.2 ^^^ e.2.2 ^^^ a
          rw [x3, h2, x3]
        · exact h2
  exact go hs (m, a) (m, b) rfl (Nat.xor_comm a b)
end Es
set_option Elab.async false
set_option linter.all false
set_option maxRecDepth 100000
set_option maxHeartbeats 4000000
namespace Es
open PySem PySem.Spec PyProof.Rows L2
def iOr (t1 t2 : TI) : TI := fun σ H R => t1 σ H R ∨ t2 σ H R
theorem pi_or {X : Cx} {tg e : Expr} {t1 t2 : TI} (h1 : PI X tg e t1) (h2 : PI X tg e t2) : PI X tg e (iOr t1 t2) :=
  ⟨fun pins s σ H R I h => by
    rcases h with h | h
    · exact h1.run pins s σ H R I h
    · exact h2.run pins s σ H R I h⟩
theorem Sq.same {K : PySem.W.Frag} {H H' : Hp} {a : Addr} {xs : List V} (s : Same H H') (h : Sq K H a xs) : Sq K H' a xs := by
  rcases h with h | h
  · exact .inl (s.seq h)
  · exact .inr (sqT_same s h)
def Lines (K : PySem.W.Frag) (H : Hp) (a : Addr) (us : List V) (hs : List (Nat × Nat × Nat)) : Prop := Sq K H a us ∧ Paired (LineV K H) us (hs.map (·.2)) ∧ ∀ e ∈ hs, low e.2.1 = some e.1 ∧ e.2.1 < 2 ^ 63
theorem lines_same {K : PySem.W.Frag} {H H' : Hp} {us : List V} {ls : List (Nat × Nat)} (s : Same H H') (h : Paired (LineV K H) us ls) : Paired (LineV K H') us ls := Paired.mono2 (fun _ _ => LineV.same s) h
theorem Lines.same {K : PySem.W.Frag} {H H' : Hp} {a : Addr} {us : List V} {hs : List (Nat × Nat × Nat)} (s : Same H H') (h : Lines K H a us hs) : Lines K H' a us hs := ⟨h.1.same s, lines_same s h.2.1, h.2.2⟩
def sp_both (K : PySem.W.Frag) : Sp := fun vs H Q _ => ∃ (v u : V) (l k : Nat × Nat), vs = [v, u] ∧ LineV K H v l ∧ LineV K H u k ∧ l.1 < 2 ^ 63 ∧ k.1 < 2 ^ 63 ∧
  ∀ H' p, Same H H' → H p = none → LineV K H' (.ref p) (l.1 ^^^ k.1, l.2 ^^^ k.2) → Q (.ref p) H'
def sp_without_heads (K : PySem.W.Frag) : Sp := fun vs H Q _ => ∃ (a : Addr) (us : List V) (hs : List (Nat × Nat × Nat)) (v : V) (l : Nat × Nat), vs = [.ref a, v] ∧ Lines K H a us hs ∧ LineV K H v l ∧ l.1 < 2 ^ 63 ∧
  ∀ H' v', Same H H' → LineV K H' v' (wh hs l) → Q v' H'
def canon (hs : List (Nat × Nat × Nat)) : List (Nat × Nat) := (byHead hs).map (·.2)
def FlatV (K : PySem.W.Frag) (H : Hp) (v : V) (hs : List (Nat × Nat × Nat)) : Prop := ∃ t us, v = .ref t ∧ SqT K H t us ∧ Paired (LineV K H) us (canon hs)
theorem FlatV.same {K : PySem.W.Frag} {H H' : Hp} {v : V} {hs : List (Nat × Nat × Nat)} (s : Same H H') (h : FlatV K H v hs) : FlatV K H' v hs := by
  obtain ⟨t, us, rfl, h1, h2⟩ := h
  exact ⟨t, us, rfl, sqT_same s h1, lines_same s h2⟩
def OptFlat (K : PySem.W.Frag) (H : Hp) (v : V) : Option (List (Nat × Nat × Nat)) → Prop
  | none => v = .non
  | some hs => FlatV K H v hs
def sp_flat_of (K : PySem.W.Frag) : Sp := fun vs H Q _ => ∃ (a : Addr) (us : List V) (ls : List (Nat × Nat)), vs = [.ref a] ∧ SqL K H a us ∧ Paired (LineV K H) us ls ∧ (∀ l ∈ ls, l.1 < 2 ^ 63 ∧ l.2 < 2) ∧
  ∀ H' v, Same H H' → OptFlat K H' v (lflat ls) → Q v H'
def sp_reduced (K : PySem.W.Frag) : Sp := fun vs H Q _ => ∃ (v u : V) (hs : List (Nat × Nat × Nat)) (m : Nat), vs = [v, u] ∧ FlatV K H v hs ∧ FlatOk hs ∧ SumV K H u m ∧ m < 2 ^ 63 ∧
  ∀ H' v', Same H H' → SumV K H' v' (wh hs (m, 0)).1 → Q v' H'
def toldV (hs : List (Nat × Nat × Nat)) (m : Nat) : V := if (wh hs (m, 0)).1 = 0 then .int ((wh hs (m, 0)).2 : Int) else .non
def sp_told_on (K : PySem.W.Frag) : Sp := fun vs H Q _ => ∃ (v u : V) (hs : List (Nat × Nat × Nat)) (m : Nat), vs = [v, u] ∧ FlatV K H v hs ∧ FlatOk hs ∧ SumV K H u m ∧ m < 2 ^ 63 ∧
  ∀ H', Same H H' → Q (toldV hs m) H'
def sp_halves (K : PySem.W.Frag) : Sp := fun vs H Q _ => ∃ (v u : V) (hs : List (Nat × Nat × Nat)) (m : Nat), vs = [v, u] ∧ FlatV K H v hs ∧ FlatOk hs ∧ SumV K H u m ∧ m < 2 ^ 63 ∧
  ((wh hs (m, 0)).1 = 0 → ∀ H', Same H H' → Q .non H') ∧
  ((wh hs (m, 0)).1 ≠ 0 → ∀ H' p v0 v1, Same H H' → H p = none → H' p = some (.tup [v0, v1]) → OptFlat K H' v0 (lflat (canon hs ++ [(m, 0)])) → OptFlat K H' v1 (lflat (canon hs ++ [(m, 1)])) → Q (.ref p) H')
theorem canon_lines {hs : List (Nat × Nat × Nat)} (F : FlatOk hs) : (byHead hs).map (·.2) = canon hs ∧ ∀ e ∈ byHead hs, low e.2.1 = some e.1 ∧ e.2.1 < 2 ^ 63 :=
  ⟨rfl, fun e he => by
    have := (byHead_perm F.red).mem_iff.mp he
    exact ⟨F.least e this, (F.red.own e this).2.1⟩⟩
theorem FlatV.lines {K : PySem.W.Frag} {H : Hp} {v : V} {hs : List (Nat × Nat × Nat)} (F : FlatOk hs) (h : FlatV K H v hs) : ∃ t us, v = .ref t ∧ Lines K H t us (byHead hs) := by
  obtain ⟨t, us, rfl, h1, h2⟩ := h
  exact ⟨t, us, rfl, .inr h1, h2, (canon_lines F).2⟩
theorem wh_byHead {hs : List (Nat × Nat × Nat)} (F : FlatOk hs) (l : Nat × Nat) : wh (byHead hs) l = wh hs l := wh_perm (byHead_perm F.red) l
theorem in_row {m h : Nat} (h63 : h < 63) : inV (.int (h : Int)) (iv (bts m)) = m.testBit h := by
  unfold inV iv
  rw [List.any_map, Bool.eq_iff_iff, List.any_eq_true]
  constructor
  · rintro ⟨x, hx, e⟩
    have e : eqV (.int (x : Int)) (.int (h : Int)) = true := e
    have e : ((x : Int) == (h : Int)) = true := e
    have e : x = h := by have := beq_iff_eq.mp e; omega
    subst e
    exact (mem_bts.mp hx).2
  · intro hb
    exact ⟨h, mem_bts.mpr ⟨h63, hb⟩, show ((h : Int) == (h : Int)) = true from beq_iff_eq.mpr rfl⟩
theorem flat_iv (l : List Nat) : (iv l).all flatV = true := by
  unfold iv
  rw [List.all_map, List.all_eq_true]
  exact fun _ _ => rfl
end Es
set_option Elab.async false
set_option linter.all false
set_option maxRecDepth 100000
set_option maxHeartbeats 4000000
namespace Es
open PySem PySem.Spec PyProof.Rows L2
def hd (l : Nat × Nat) : Nat := (low l.1).getD 63
theorem hd_of {l : Nat × Nat} {h : Nat} (e : low l.1 = some h) : hd l = h := by
  unfold hd
  rw [e]
  rfl
theorem lt_sum {a b h g : Nat} (ha : low a = some h) (hb : low b = some g) (n : h ≠ g) : PySem.W.dataLt (sumD a) (sumD b) = decide (h < g) := by
  obtain ⟨ta, ea⟩ := low_cons ha
  obtain ⟨tb, eb⟩ := low_cons hb
  unfold sumD
  rw [PySem.W.dataLt_tuple]
  show PySem.W.rowLt _ _ = _
  rw [PySem.W.dataLt_ints, ea, eb, List.map_cons, List.map_cons]
  rw [decide_eq_decide, List.cons_lt_cons_iff]
  constructor
  · rintro (z | ⟨z, _⟩)
    · exact Int.ofNat_lt.mp z
    · exact absurd (Int.ofNat.inj z) n
  · exact fun z => .inl (Int.ofNat_lt.mpr z)
theorem alike_sumD (a b : Nat) : PySem.W.alike (sumD a) (sumD b) = true := by
  have h := alike_lineD (a, 0) (b, 0)
  unfold lineD at h
  simp only [PySem.W.alike] at h
  simpa [PySem.W.alike, PySem.W.alikeAll] using h
theorem lt_line {l k : Nat × Nat} {h g : Nat} (hl : low l.1 = some h) (hk : low k.1 = some g) (n : h ≠ g) (l63 : l.1 < 2 ^ 63) (k63 : k.1 < 2 ^ 63) : PySem.W.dataLt (lineD l) (lineD k) = decide (h < g) := by
  unfold lineD
  rw [PySem.W.dataLt_pair (alike_sumD _ _) (by simp [PySem.W.alike])]
  rw [if_neg fun z => n ?_]
  · exact lt_sum hl hk n
  · have := eqv_sumD_iff l63 k63 z
    rw [this] at hl
    exact Option.some.inj (hl.symm.trans hk)
theorem lt_same (l : Nat × Nat) : PySem.W.dataLt (lineD l) (lineD l) = false := by
  unfold lineD
  rw [PySem.W.dataLt_pair (alike_sumD _ _) (by simp [PySem.W.alike]), if_pos (eqv_sumD _), if_pos]
  show ((l.2 : Int) == (l.2 : Int)) = true
  exact beq_iff_eq.mpr rfl
theorem sorted_lines {K : PySem.W.Frag} {H : Hp} {hs : List (Nat × Nat × Nat)} (F : FlatOk hs) {cs : List (V × (Nat × Nat))} (hv : ∀ c ∈ cs, LineV K H c.1 c.2) (p : (cs.map (·.2)).Perm (hs.map (·.2))) :
    Paired (LineV K H) (((cs.map fun c => ((c.1, lineD c.2) : V × PyData)).mergeSort (PySem.W.dataLe false (·.2))).map (·.1)) (canon hs) := by
  have mem : ∀ c ∈ cs, ∃ e ∈ hs, c.2 = e.2 ∧ low c.2.1 = some e.1 ∧ c.2.1 < 2 ^ 63 := fun c hc => by
    obtain ⟨e, he, z⟩ := List.mem_map.mp (p.mem_iff.mp (List.mem_map.mpr ⟨c, hc, rfl⟩))
    have z : e.2 = c.2 := z
    exact ⟨e, he, z.symm, by rw [← z]; exact F.least e he, by rw [← z]; exact (F.red.own e he).2.1⟩
  have key : ∀ a ∈ cs, ∀ b ∈ cs, (decide (hd a.2 ≤ hd b.2)) = PySem.W.dataLe false (fun (b : V × PyData) => b.2) (a.1, lineD a.2) (b.1, lineD b.2) := fun a ha b hb => by
    rw [PySem.W.dataLe_eq]
    show _ = !PySem.W.dataLt (lineD b.2) (lineD a.2)
    obtain ⟨e, he, ea, la, a63⟩ := mem a ha
    obtain ⟨g, hg, eb, lb, b63⟩ := mem b hb
    rw [hd_of la, hd_of lb]
    by_cases n : g.1 = e.1
    · have : g = e := by
        have h1 := look_of F.red.nd hg
        have h2 := look_of F.red.nd he
        rw [n, h2] at h1
        exact Prod.ext n (Option.some.inj h1).symm
      subst this
      rw [ea, eb, lt_same, decide_eq_true (Nat.le_refl _)]
      rfl
    · rw [lt_line lb la n b63 a63]
      by_cases z : g.1 < e.1
      · rw [decide_eq_true z, decide_eq_false (by omega)]
        rfl
      · rw [decide_eq_false z, decide_eq_true (by omega)]
        rfl
  rw [← List.map_mergeSort (r := fun a b : V × (Nat × Nat) => decide (hd a.2 ≤ hd b.2)) (f := fun c : V × (Nat × Nat) => ((c.1, lineD c.2) : V × PyData)) key, List.map_map]
  have srt1 := List.pairwise_mergeSort (le := fun a b : V × (Nat × Nat) => decide (hd a.2 ≤ hd b.2)) (fun a b c h1 h2 => by simp only [decide_eq_true_eq] at *; omega) (fun a b => by simp only [Bool.or_eq_true, decide_eq_true_eq]; omega) cs
  have perm1 := List.mergeSort_perm cs (fun a b : V × (Nat × Nat) => decide (hd a.2 ≤ hd b.2))
  generalize cs.mergeSort (fun a b : V × (Nat × Nat) => decide (hd a.2 ≤ hd b.2)) = zs at srt1 perm1
  have hz : ∀ c ∈ zs, LineV K H c.1 c.2 := fun c hc => hv c (perm1.mem_iff.mp hc)
  have ez : zs.map (·.2) = canon hs := by
    refine List.Perm.eq_of_pairwise (le := fun a b => hd a ≤ hd b) ?_ ?_ ?_ ?_
    · intro a b ha hb h1 h2
      obtain ⟨c, hc, rfl⟩ := List.mem_map.mp ha
      obtain ⟨e, he, ea, la, _⟩ := mem c (perm1.mem_iff.mp hc)
      unfold canon at hb
      obtain ⟨g, hg, rfl⟩ := List.mem_map.mp hb
      have hg := (byHead_perm F.red).mem_iff.mp hg
      have lg := F.least g hg
      rw [hd_of la, hd_of lg] at h1 h2
      have n : e.1 = g.1 := by omega
      have h1 := look_of F.red.nd hg
      have h2 := look_of F.red.nd he
      rw [← n, h2] at h1
      rw [ea]
      exact Option.some.inj h1
    · rw [List.pairwise_map]
      exact srt1.imp fun h => by simpa using h
    · unfold canon
      rw [List.pairwise_map]
      have k := srt_lt (hs.map (·.1))
      rw [← byHead_keys, List.pairwise_map] at k
      refine k.imp_of_mem fun {a b} ha hb h => ?_
      have ha := F.least a ((byHead_perm F.red).mem_iff.mp ha)
      have hb := F.least b ((byHead_perm F.red).mem_iff.mp hb)
      rw [hd_of ha, hd_of hb]
      exact Nat.le_of_lt h
    · refine (perm1.map (·.2)).trans (p.trans ?_)
      unfold canon
      exact ((byHead_perm F.red).map (·.2)).symm
  rw [← ez]
  clear ez srt1 perm1
  induction zs with
  | nil => exact .nil
  | cons c zs ih => exact .cons (hz c List.mem_cons_self) (ih fun x hx => hz x (List.mem_cons_of_mem _ hx))
theorem lines_but {K : PySem.W.Frag} {H H' : Hp} {b : Addr} {ys us : List V} {ls : List (Nat × Nat)} (hb : H b = some (.lst ys)) (s : But b H H') (h : Paired (LineV K H) us ls) : Paired (LineV K H') us ls := Paired.mono2 (fun _ _ => LineV.but hb s) h
theorem paired_zip {α β : Type} {R : α → β → Prop} : ∀ {xs : List α} {ys : List β}, PySem.Paired R xs ys → ∀ c ∈ xs.zip ys, R c.1 c.2
  | _, _, .nil => fun c hc => by cases hc
  | _, _, .cons h t => fun c hc => by
    rw [List.zip_cons_cons] at hc
    rcases List.mem_cons.mp hc with hc | hc
    · rw [hc]; exact h
    · exact paired_zip t c hc
theorem lput_lines (hs : List (Nat × Nat × Nat)) (a : Nat) (p : Nat × Nat) : (lput hs a p).map (·.2) = (hs.map fun e => wh1 e.2.1 e.2 (a, p)) ++ [p] := by
  unfold lput
  rw [List.map_append, List.map_map]
  congr 1
  refine List.map_congr_left fun e _ => ?_
  show (if e.2.1.testBit a = true then (e.1, e.2.1 ^^^ p.1, e.2.2 ^^^ p.2) else e).2 = wh1 e.2.1 e.2 (a, p)
  unfold wh1
  by_cases z : e.2.1.testBit a = true
  · rw [if_pos z, if_pos z]
  · rw [if_neg z, if_neg z]
theorem sort_facts {K : PySem.W.Frag} {H : Hp} {cs : List (V × (Nat × Nat))} (hv : ∀ c ∈ cs, LineV K H c.1 c.2) :
    (∀ b ∈ cs.map (fun c => ((c.1, lineD c.2) : V × PyData)), Dp K H b.1 b.2) ∧ PySem.W.AllAlike ((cs.map (fun c => ((c.1, lineD c.2) : V × PyData))).map (·.2)) ∧ PySem.W.Sortable ((cs.map (fun c => ((c.1, lineD c.2) : V × PyData))).map (·.2)) ∧ (∀ b ∈ cs.map (fun c => ((c.1, lineD c.2) : V × PyData)), b.2.depth ≤ 40) := by
  refine ⟨fun b hb => ?_, fun d1 h1 d2 h2 => ?_, .inl fun d1 h1 => ?_, fun b hb => ?_⟩
  · obtain ⟨c, hc, rfl⟩ := List.mem_map.mp hb
    exact dp_line (hv c hc)
  · obtain ⟨x1, m1, rfl⟩ := List.mem_map.mp h1
    obtain ⟨x2, m2, rfl⟩ := List.mem_map.mp h2
    obtain ⟨c1, _, rfl⟩ := List.mem_map.mp m1
    obtain ⟨c2, _, rfl⟩ := List.mem_map.mp m2
    exact alike_lineD c1.2 c2.2
  · obtain ⟨x1, m1, rfl⟩ := List.mem_map.mp h1
    obtain ⟨c1, _, rfl⟩ := List.mem_map.mp m1
    exact ⟨_, _, rfl⟩
  · obtain ⟨c, hc, rfl⟩ := List.mem_map.mp hb
    show (lineD c.2).depth ≤ 40
    rw [depth_lineD]
    decide
theorem canon_mem {hs : List (Nat × Nat × Nat)} (F : FlatOk hs) {l : Nat × Nat} (h : l ∈ canon hs) : ∃ e ∈ hs, l = e.2 := by
  unfold canon at h
  obtain ⟨e, he, rfl⟩ := List.mem_map.mp h
  exact ⟨e, (byHead_perm F.red).mem_iff.mp he, rfl⟩
theorem canon_lt {hs : List (Nat × Nat × Nat)} (F : FlatOk hs) : ∀ l ∈ canon hs, l.1 < 2 ^ 63 ∧ l.2 < 2 := fun l h => by
  obtain ⟨e, he, rfl⟩ := canon_mem F h
  exact ⟨(F.red.own e he).2.1, F.bit e he⟩
theorem canon_snoc_lt {hs : List (Nat × Nat × Nat)} (F : FlatOk hs) {m b : Nat} (hm : m < 2 ^ 63) (hb : b < 2) : ∀ l ∈ canon hs ++ [(m, b)], l.1 < 2 ^ 63 ∧ l.2 < 2 := fun l h => by
  rcases List.mem_append.mp h with h | h
  · exact canon_lt F l h
  · have h : l = (m, b) := by simpa using h
    rw [h]; exact ⟨hm, hb⟩
theorem canon_len (hs : List (Nat × Nat × Nat)) : (canon hs).length ≤ 63 := by
  unfold canon byHead
  rw [List.length_map, List.length_map]
  have := List.length_filter_le (fun u => decide (u ∈ hs.map (·.1))) (List.range 63)
  simpa [srt] using this
theorem optFlat_same {K : PySem.W.Frag} {H H' : Hp} {v : V} {o : Option (List (Nat × Nat × Nat))} (s : Same H H') (h : OptFlat K H v o) : OptFlat K H' v o := by
  cases o with
  | none => exact h
  | some hs => exact FlatV.same s h
def rListK (K : PySem.W.Frag) : List V → Hp → VK → Prop := fun xs H Q => ∃ p ys, xs = [.ref p] ∧ (SqL K H p ys ∨ SqT K H p ys) ∧ ∀ (l : Addr), H l = none → Q (.ref l) (upd H l (.lst ys))
theorem canon_get {hs : List (Nat × Nat × Nat)} (F : FlatOk hs) {i : Nat} {l : Nat × Nat} (h : (canon hs)[i]? = some l) : ∃ e ∈ hs, l = e.2 ∧ (srt (hs.map (·.1)))[i]? = some e.1 := by
  unfold canon at h
  rw [List.getElem?_map] at h
  obtain ⟨e, he, rfl⟩ := Option.map_eq_some_iff.mp h
  refine ⟨e, (byHead_perm F.red).mem_iff.mp (List.mem_of_getElem? he), rfl, ?_⟩
  rw [← byHead_keys, List.getElem?_map, he]
  rfl
theorem canon_eq_len (hs : List (Nat × Nat × Nat)) : (canon hs).length = (srt (hs.map (·.1))).length := by
  unfold canon byHead
  rw [List.length_map, List.length_map]
theorem optFlat_but {K : PySem.W.Frag} {H H' : Hp} {b : Addr} {ys : List V} {v : V} {o : Option (List (Nat × Nat × Nat))} (hb : H b = some (.lst ys)) (s : But b H H') (h : OptFlat K H v o) : OptFlat K H' v o := by
  cases o with
  | none => exact h
  | some hs =>
    obtain ⟨t, us, rfl, h1, h2⟩ := h
    exact ⟨t, us, rfl, sqT_but hb s h1, lines_but hb s h2⟩
end Es
set_option Elab.async false
set_option linter.all false
set_option maxRecDepth 100000
set_option maxHeartbeats 4000000
namespace Es
open PySem PySem.Spec PyProof.Rows L2
def fS (n s : Nat) : Nat → Bool := fun u => decide (u < n) && s.testBit (n - 1 - u)
def holdsB (l : Nat × Nat) (f : Nat → Bool) : Bool := par l.1 f == decide (l.2 = 1)
theorem holdsB_iff {l : Nat × Nat} {f : Nat → Bool} : holdsB l f = true ↔ holdsL l f := by
  unfold holdsB holdsL
  exact beq_iff_eq
def BitsOf (N x : Nat) (p : Nat → Bool) : Prop := x < 2 ^ N ∧ ∀ s, s < N → x.testBit s = p s
theorem BitsOf.uniq {N x y : Nat} {p : Nat → Bool} (hx : BitsOf N x p) (hy : BitsOf N y p) : x = y := by
  refine Nat.eq_of_testBit_eq fun s => ?_
  by_cases h : s < N
  · rw [hx.2 s h, hy.2 s h]
  · rw [Nat.testBit_lt_two_pow (Nat.lt_of_lt_of_le hx.1 (Nat.pow_le_pow_right (by decide) (Nat.le_of_not_lt h))), Nat.testBit_lt_two_pow (Nat.lt_of_lt_of_le hy.1 (Nat.pow_le_pow_right (by decide) (Nat.le_of_not_lt h)))]
theorem BitsOf.congr {N x : Nat} {p q : Nat → Bool} (h : BitsOf N x p) (e : ∀ s, s < N → p s = q s) : BitsOf N x q := ⟨h.1, fun s hs => (h.2 s hs).trans (e s hs)⟩
theorem BitsOf.xor {N x y : Nat} {p q : Nat → Bool} (hx : BitsOf N x p) (hy : BitsOf N y q) : BitsOf N (x ^^^ y) (fun s => p s ^^ q s) :=
  ⟨Nat.xor_lt_two_pow hx.1 hy.1, fun s hs => by rw [Nat.testBit_xor, hx.2 s hs, hy.2 s hs]⟩
theorem BitsOf.and {N x y : Nat} {p q : Nat → Bool} (hx : BitsOf N x p) (hy : BitsOf N y q) : BitsOf N (x &&& y) (fun s => p s && q s) :=
  ⟨Nat.lt_of_le_of_lt Nat.and_le_left hx.1, fun s hs => by rw [Nat.testBit_and, hx.2 s hs, hy.2 s hs]⟩
theorem BitsOf.none (N : Nat) : BitsOf N 0 (fun _ => false) := ⟨Nat.two_pow_pos _, fun s _ => Nat.zero_testBit s⟩
theorem BitsOf.all (N : Nat) : BitsOf N (2 ^ N - 1) (fun _ => true) := ⟨by have := Nat.two_pow_pos N; omega, fun s hs => by rw [Nat.testBit_two_pow_sub_one, decide_eq_true hs]⟩
theorem BitsOf.pos {N x : Nat} {p : Nat → Bool} (h : BitsOf N x p) : 0 < x ↔ ∃ s, s < N ∧ p s = true := by
  constructor
  · intro h0
    refine Classical.byContradiction fun z => ?_
    have : x = 0 := h.uniq ((BitsOf.none N).congr fun s hs => by
      cases q : p s with
      | false => rfl
      | true => exact absurd ⟨s, hs, q⟩ z)
    omega
  · rintro ⟨s, hs, q⟩
    refine Nat.pos_of_ne_zero fun z => ?_
    have := h.2 s hs
    rw [z, Nat.zero_testBit, q] at this
    cases this
theorem and_nat (a b : Nat) : Builtin.bitAnd (a : Int) (b : Int) = ((a &&& b : Nat) : Int) := by
  rw [bitAnd_pp (Int.natCast_nonneg _) (Int.natCast_nonneg _)]
  rfl
theorem setting_num (n : Nat) (f : Nat → Bool) : ∃ s, s < 2 ^ n ∧ ∀ u, u < n → s.testBit (n - 1 - u) = f u := by
  induction n generalizing f with
  | zero => exact ⟨0, by decide, fun u hu => absurd hu (Nat.not_lt_zero u)⟩
  | succ n ih =>
    obtain ⟨s, h1, h2⟩ := ih fun u => f (u + 1)
    refine ⟨(if f 0 = true then 2 ^ n else 0) + s, ?_, fun u hu => ?_⟩
    · rw [Nat.pow_succ]
      split <;> omega
    · cases u with
      | zero =>
        rw [Nat.sub_zero, Nat.add_sub_cancel]
        cases q : f 0 with
        | true =>
          rw [if_pos rfl, Nat.testBit_two_pow_add_eq, Nat.testBit_lt_two_pow h1]
          rfl
        | false =>
          rw [if_neg Bool.false_ne_true, Nat.zero_add, Nat.testBit_lt_two_pow h1]
      | succ u =>
        have e : n + 1 - 1 - (u + 1) = n - 1 - u := by omega
        rw [e, ← h2 u (by omega)]
        split
        · exact Nat.testBit_two_pow_add_gt (by omega) s
        · rw [Nat.zero_add]
theorem par_congr {m n : Nat} (hm : m < 2 ^ n) {f g : Nat → Bool} (h : ∀ u, u < n → f u = g u) : par m f = par m g := by
  unfold par parL
  have go : ∀ (L : List Nat) (b : Bool), L.foldl (fun b u => b ^^ (m.testBit u && f u)) b = L.foldl (fun b u => b ^^ (m.testBit u && g u)) b := by
    intro L
    induction L with
    | nil => intro b; rfl
    | cons u L ih =>
      intro b
      rw [List.foldl_cons, List.foldl_cons]
      have : (m.testBit u && f u) = (m.testBit u && g u) := by
        by_cases hu : u < n
        · rw [h u hu]
        · rw [Nat.testBit_lt_two_pow (Nat.lt_of_lt_of_le hm (Nat.pow_le_pow_right (by decide) (Nat.le_of_not_lt hu)))]
          rfl
      rw [this]
      exact ih _
  exact go _ _
theorem holds_num {n : Nat} (f : Nat → Bool) : ∃ s, s < 2 ^ n ∧ ∀ l : Nat × Nat, l.1 < 2 ^ n → (holdsL l (fS n s) ↔ holdsL l f) := by
  obtain ⟨s, h1, h2⟩ := setting_num n f
  refine ⟨s, h1, fun l hl => ?_⟩
  unfold holdsL
  rw [par_congr hl (f := fS n s) (g := f) fun u hu => by unfold fS; rw [decide_eq_true hu, Bool.true_and, h2 u hu]]
theorem par_bts (m : Nat) (f : Nat → Bool) : par m f = (bts m).foldl (fun b u => b ^^ f u) false := by
  unfold par parL bts
  have go : ∀ (L : List Nat) (b : Bool), L.foldl (fun b u => b ^^ (m.testBit u && f u)) b = (L.filter fun u => m.testBit u).foldl (fun b u => b ^^ f u) b := by
    intro L
    induction L with
    | nil => intro b; rfl
    | cons u L ih =>
      intro b
      rw [List.foldl_cons, List.filter_cons]
      cases q : m.testBit u with
      | true => rw [if_pos rfl, List.foldl_cons, Bool.true_and]; exact ih _
      | false => rw [if_neg Bool.false_ne_true, Bool.false_and, Bool.xor_false]; exact ih _
  exact go _ _
theorem wsum_par (m : Nat) (bs : List Nat) (hb : ∀ b ∈ bs, b < 2) : holdsL (m, wsum m bs % 2) (fun u => decide (bs.getD u 0 = 1)) := by
  unfold holdsL
  rw [par_bts]
  unfold wsum
  show _ = decide (_ % 2 = 1)
  have b2 : ∀ u, bs.getD u 0 < 2 := fun u => by
    rw [List.getD_eq_getElem?_getD]
    cases q : bs[u]? with
    | none => decide
    | some b => exact hb b (List.mem_of_getElem? q)
  have go : ∀ (L : List Nat) (b : Bool) (x : Nat), b = decide (x % 2 = 1) → L.foldl (fun b u => b ^^ decide (bs.getD u 0 = 1)) b = decide ((x + (L.map fun u => bs.getD u 0).sum) % 2 = 1) := by
    intro L
    induction L with
    | nil => intro b x h; rw [h]; rfl
    | cons u L ih =>
      intro b x h
      rw [List.foldl_cons, List.map_cons, List.sum_cons, ← Nat.add_assoc]
      refine ih _ _ ?_
      rw [h]
      have hu := b2 u
      generalize bs.getD u 0 = y at hu ⊢
      have hy : y = 0 ∨ y = 1 := by omega
      rcases hy with rfl | rfl
      · simp
      · by_cases z : x % 2 = 1
        · have z2 : ¬ (x + 1) % 2 = 1 := by omega
          rw [decide_eq_true z, decide_eq_false z2]
          rfl
        · have z2 : (x + 1) % 2 = 1 := by omega
          rw [decide_eq_false z, decide_eq_true z2]
          rfl
  have := go (bts m) false 0 rfl
  rwa [Nat.zero_add] at this
def sp_law_told (K : PySem.W.Frag) : Sp := sp_told_on K
def sp_law_halves (K : PySem.W.Frag) : Sp := fun vs H Q _ => ∃ (v u : V) (hs : List (Nat × Nat × Nat)) (m : Nat), vs = [v, u] ∧ FlatV K H v hs ∧ FlatOk hs ∧ SumV K H u m ∧ m < 2 ^ 63 ∧
  ∀ H' p v0 v1, Same H H' → H p = none → H' p = some (.tup [v0, v1]) → OptFlat K H' v0 (lflat (canon hs ++ [(m, 0)])) → OptFlat K H' v1 (lflat (canon hs ++ [(m, 1)])) → Q (.ref p) H'
def sp_law_is_row (K : PySem.W.Frag) : Sp := fun vs H Q _ => ∃ (n m : Nat) (v : V), vs = [.int (n : Int), v] ∧ SumV K H v m ∧ m < 2 ^ n ∧ m ≠ 0 ∧ n ≤ 62 ∧ ∀ H', Same H H' → Q (.bl true) H'
def sp_law_is_line (K : PySem.W.Frag) : Sp := fun vs H Q _ => ∃ (n : Nat) (l : Nat × Nat) (v : V), vs = [.int (n : Int), v] ∧ LineV K H v l ∧ l.1 < 2 ^ n ∧ l.1 ≠ 0 ∧ l.2 < 2 ∧ n ≤ 62 ∧ ∀ H', Same H H' → Q (.bl true) H'
def sp_law_is_clause (K : PySem.W.Frag) : Sp := fun vs H Q _ => ∃ (n : Nat) (hs : List (Nat × Nat × Nat)) (v : V), vs = [.int (n : Int), v] ∧ FlatV K H v hs ∧ FlatOk hs ∧ (∀ e ∈ hs, e.2.1 < 2 ^ n) ∧ n ≤ 62 ∧ ∀ H', Same H H' → Q (.bl true) H'
def sp_law_is_flat (K : PySem.W.Frag) : Sp := sp_law_is_clause K
def sp_law_is_reduced (K : PySem.W.Frag) : Sp := fun vs H Q _ => ∃ (v u x : V) (hs : List (Nat × Nat × Nat)) (m : Nat), vs = [v, u, x] ∧ FlatV K H v hs ∧ FlatOk hs ∧ SumV K H u m ∧ m < 2 ^ 63 ∧ SumV K H x (wh hs (m, 0)).1 ∧ ∀ H', Same H H' → Q (.bl true) H'
def sp_law_drawn_flat (K : PySem.W.Frag) : Sp := fun vs H Q _ => ∃ (b c : Addr) (n k : Nat), vs = [.ref b, .int (n : Int), .int (k : Int)] ∧ BagAt K H b c ∧ n ≤ 62 ∧ k ≤ 100 ∧
  ∀ H' v hs, But b H H' → BagAt K H' b c → FlatV K H' v hs → FlatOk hs → (∀ e ∈ hs, e.2.1 < 2 ^ n) → Q v H'
def sp_law_drawn_sum (K : PySem.W.Frag) : Sp := fun vs H Q _ => ∃ (b c : Addr) (n : Nat) (v : V) (hs : List (Nat × Nat × Nat)), vs = [.ref b, .int (n : Int), v] ∧ BagAt K H b c ∧ n ≤ 62 ∧ FlatV K H v hs ∧ FlatOk hs ∧ (∀ e ∈ hs, e.2.1 < 2 ^ n) ∧
  ∀ H' u m, But b H H' → BagAt K H' b c → SumV K H' u m → m < 2 ^ n → Q u H'
def RoomV (K : PySem.W.Frag) (H : Hp) (v : V) (n : Nat) : Prop := ∃ t c cs, v = .ref t ∧ SqT K H t [.int (n : Int), .int ((2 ^ 2 ^ n - 1 : Nat) : Int), .ref c] ∧ SqT K H c (iv cs) ∧ cs.length = n ∧ ∀ u, u < n → BitsOf (2 ^ n) (cs.getD u 0) (fun s => fS n s u)
theorem RoomV.same {K : PySem.W.Frag} {H H' : Hp} {v : V} {n : Nat} (s : Same H H') (h : RoomV K H v n) : RoomV K H' v n := by
  obtain ⟨t, c, cs, rfl, h1, h2, h3⟩ := h
  exact ⟨t, c, cs, rfl, sqT_same s h1, sqT_same s h2, h3⟩
def sp_law_room (K : PySem.W.Frag) : Sp := fun vs H Q _ => ∃ (n : Nat), vs = [.int (n : Int)] ∧ n ≤ 7 ∧ ∀ H' v, Same H H' → RoomV K H' v n → Q v H'
def sp_law_held (K : PySem.W.Frag) : Sp := fun vs H Q _ => ∃ (v u : V) (n : Nat) (l : Nat × Nat), vs = [v, u] ∧ RoomV K H v n ∧ n ≤ 7 ∧ LineV K H u l ∧ l.1 < 2 ^ n ∧ l.2 < 2 ∧
  ∀ x, BitsOf (2 ^ n) x (fun s => holdsB l (fS n s)) → Q (.int (x : Int)) H
def sp_law_in (K : PySem.W.Frag) : Sp := fun vs H Q _ => ∃ (v : V) (t : Addr) (us : List V) (n : Nat) (ls : List (Nat × Nat)), vs = [v, .ref t] ∧ RoomV K H v n ∧ n ≤ 7 ∧ SqT K H t us ∧ Paired (LineV K H) us ls ∧ (∀ l ∈ ls, l.1 < 2 ^ n ∧ l.2 < 2) ∧
  ∀ x, BitsOf (2 ^ n) x (fun s => ls.all fun l => holdsB l (fS n s)) → Q (.int (x : Int)) H
def sp_law_worthL (K : PySem.W.Frag) : Sp := fun vs H Q _ => ∃ (v : V) (b : Addr) (m : Nat) (bs : List Nat), vs = [v, .ref b] ∧ SumV K H v m ∧ SqL K H b (iv bs) ∧ (∀ u ∈ bts m, u < bs.length) ∧
  ∀ H', Same H H' → Q (.int ((wsum m bs % 2 : Nat) : Int)) H'
theorem nice_line {l : Nat × Nat} (h : l.2 < 2) : nice (lineD l) = true := by
  refine niceAll_iff.mpr fun x hx => ?_
  rcases List.mem_cons.mp hx with rfl | hx
  · exact nice_sumD _
  · rcases List.mem_cons.mp hx with rfl | hx
    · refine decide_eq_true ?_
      show l.2 < 10 ^ 12
      exact Nat.lt_trans h (by decide)
    · cases hx
theorem shaped_line {l : Nat × Nat} (h : l.2 < 2) : SeqAt.shaped (lineD l) = true := nice_shaped (nice_line h) (by rw [depth_lineD]; decide)
theorem eqv_line {l : Nat × Nat} (h : l.2 < 2) : PyData.eqv (lineD l) (lineD l) = true := SeqAt.eqv_refl _ (nice_facts _ (nice_line h)).1
theorem all_canon {hs : List (Nat × Nat × Nat)} (F : FlatOk hs) (f : Nat → Bool) : ((canon hs).all fun l => holdsB l f) = true ↔ sol hs f := by
  rw [List.all_eq_true]
  constructor
  · intro h e he
    refine holdsB_iff.mp (h e.2 ?_)
    unfold canon
    exact List.mem_map.mpr ⟨e, (byHead_perm F.red).mem_iff.mpr he, rfl⟩
  · intro h l hl
    obtain ⟨e, he, rfl⟩ := canon_mem F hl
    exact holdsB_iff.mpr (h e he)
theorem half_is {hs : List (Nat × Nat × Nat)} (F : FlatOk hs) {n m b : Nat} (hn : n ≤ 62) (hlt : ∀ e ∈ hs, e.2.1 < 2 ^ n) (hm : m < 2 ^ n) (hb : b < 2) (nz : (wh hs (m, 0)).1 ≠ 0) :
    ∃ gs, lflat (canon hs ++ [(m, b)]) = some gs ∧ FlatOk gs ∧ (∀ e ∈ gs, e.2.1 < 2 ^ n) ∧ ∀ f, sol gs f ↔ sol hs f ∧ holdsL (m, b) f := by
  have m63 : m < 2 ^ 63 := Nat.lt_of_lt_of_le hm (Nat.pow_le_pow_right (by decide) (by omega))
  have lt1 := canon_snoc_lt F m63 hb
  have lt2 : ∀ l ∈ canon hs ++ [(m, b)], l.1 < 2 ^ n ∧ l.2 < 2 := fun l hl => by
    refine ⟨?_, (lt1 l hl).2⟩
    rcases List.mem_append.mp hl with hl | hl
    · obtain ⟨e, he, rfl⟩ := canon_mem F hl
      exact hlt e he
    · have hl : l = (m, b) := by simpa using hl
      rw [hl]; exact hm
  have both : ∀ f, (∀ l ∈ canon hs ++ [(m, b)], holdsL l f) ↔ sol hs f ∧ holdsL (m, b) f := fun f => by
    rw [← all_canon F f, List.all_eq_true]
    constructor
    · exact fun h => ⟨fun l hl => holdsB_iff.mpr (h l (List.mem_append_left _ hl)), h _ (List.mem_append_right _ List.mem_cons_self)⟩
    · rintro ⟨h1, h2⟩ l hl
      rcases List.mem_append.mp hl with hl | hl
      · exact holdsB_iff.mp (h1 l hl)
      · have hl : l = (m, b) := by simpa using hl
        rw [hl]; exact h2
  obtain ⟨a1, a2⟩ := lflat_sol (canon hs ++ [(m, b)]) lt1
  cases q : lflat (canon hs ++ [(m, b)]) with
  | none =>
    obtain ⟨f, s1, s2⟩ := flat_free F (l := (m, b)) m63 hb (by rw [← (wh_row hs m 0 b).1]; exact nz)
    exact absurd ((both f).mpr ⟨s1, s2⟩) (a2 q f)
  | some gs => exact ⟨gs, rfl, lflat_flat _ lt1 gs q, lflat_lt (by omega) _ lt2 gs q, fun f => (a1 gs q f).trans (both f)⟩
def sp_law_are_halves (K : PySem.W.Frag) : Sp := fun vs H Q _ => ∃ (v w u : V) (p : Addr) (v0 v1 : V) (n : Nat) (hs : List (Nat × Nat × Nat)) (m : Nat), vs = [v, w, u, .ref p] ∧ RoomV K H v n ∧ n ≤ 7 ∧ FlatV K H w hs ∧ FlatOk hs ∧ (∀ e ∈ hs, e.2.1 < 2 ^ n) ∧ SumV K H u m ∧ m < 2 ^ n ∧
  (wh hs (m, 0)).1 ≠ 0 ∧ SqT K H p [v0, v1] ∧ OptFlat K H v0 (lflat (canon hs ++ [(m, 0)])) ∧ OptFlat K H v1 (lflat (canon hs ++ [(m, 1)])) ∧ ∀ H', Same H H' → Q (.bl true) H'
def sp_law_is_told_right (K : PySem.W.Frag) : Sp := fun vs H Q _ => ∃ (v w u : V) (n : Nat) (hs : List (Nat × Nat × Nat)) (m : Nat), vs = [v, w, u] ∧ RoomV K H v n ∧ n ≤ 7 ∧ FlatV K H w hs ∧ FlatOk hs ∧ (∀ e ∈ hs, e.2.1 < 2 ^ n) ∧ SumV K H u m ∧ m < 2 ^ n ∧ ∀ H', Same H H' → Q (.bl true) H'
theorem canon_below {hs : List (Nat × Nat × Nat)} (F : FlatOk hs) {n : Nat} (hlt : ∀ e ∈ hs, e.2.1 < 2 ^ n) : ∀ l ∈ canon hs, l.1 < 2 ^ n ∧ l.2 < 2 := fun l hl => by
  obtain ⟨e, he, rfl⟩ := canon_mem F hl
  exact ⟨hlt e he, F.bit e he⟩
def col (P : Nat) : Nat → Nat
  | 0 => 0
  | k + 1 => col P k ||| (((2 ^ 2 ^ P - 1) * 2 ^ 2 ^ P) * 2 ^ (2 * 2 ^ P * k))
theorem col_bit (P k s : Nat) : (col P k).testBit s = (decide (s < 2 * 2 ^ P * k) && s.testBit P) := by
  have w0 : 0 < 2 ^ P := Nat.two_pow_pos P
  have eb : s.testBit P = decide (s / 2 ^ P % 2 = 1) := Nat.testBit_eq_decide_div_mod_eq
  induction k with
  | zero =>
    unfold col
    rw [Nat.zero_testBit, Nat.mul_zero, decide_eq_false (Nat.not_lt_zero s)]
    rfl
  | succ k ih =>
    unfold col
    rw [Nat.testBit_or, ih, Nat.testBit_mul_two_pow, Nat.testBit_mul_two_pow, Nat.testBit_two_pow_sub_one, eb]
    generalize 2 ^ P = w at w0
    have e1 : 2 * w * (k + 1) = 2 * w * k + 2 * w := by rw [Nat.mul_add, Nat.mul_one]
    rw [e1]
    by_cases h1 : s < 2 * w * k
    · rw [decide_eq_true h1, decide_eq_false (show ¬ 2 * w * k ≤ s by omega), decide_eq_true (show s < 2 * w * k + 2 * w by omega)]
      simp
    · obtain ⟨t, rfl⟩ : ∃ t, s = 2 * w * k + t := ⟨s - 2 * w * k, by omega⟩
      rw [decide_eq_false h1, decide_eq_true (show 2 * w * k ≤ 2 * w * k + t by omega)]
      have e2 : 2 * w * k + t - 2 * w * k = t := by omega
      have e3 : (2 * w * k + t) / w = 2 * k + t / w := by
        rw [show 2 * w * k = w * (2 * k) by rw [Nat.mul_comm 2 w, Nat.mul_assoc], Nat.mul_add_div w0]
      rw [e2, e3]
      by_cases h2 : t < 2 * w
      · rw [decide_eq_true (show 2 * w * k + t < 2 * w * k + 2 * w by omega)]
        by_cases h3 : w ≤ t
        · have e4 : t / w = 1 := Nat.div_eq_of_lt_le (by omega) (by omega)
          rw [e4, decide_eq_true h3, decide_eq_true (show t - w < w by omega), decide_eq_true (show (2 * k + 1) % 2 = 1 by omega)]
          rfl
        · have e4 : t / w = 0 := Nat.div_eq_of_lt (by omega)
          rw [e4, decide_eq_false h3, decide_eq_false (show ¬ (2 * k + 0) % 2 = 1 by omega)]
          rfl
      · rw [decide_eq_false (show ¬ 2 * w * k + t < 2 * w * k + 2 * w by omega), decide_eq_false (show ¬ t - w < w by omega)]
        simp
theorem col_lt (P k : Nat) : col P k < 2 ^ (2 * 2 ^ P * k) := by
  refine Nat.lt_pow_two_of_testBit _ fun s hs => ?_
  rw [col_bit, decide_eq_false (by omega)]
  rfl
theorem col_is {n u : Nat} (hu : u < n) : BitsOf (2 ^ n) (col (n - 1 - u) (2 ^ u)) (fun s => fS n s u) := by
  have e : 2 * 2 ^ (n - 1 - u) * 2 ^ u = 2 ^ n := by
    rw [Nat.mul_comm 2, ← Nat.pow_succ, ← Nat.pow_add]
    congr 1
    omega
  refine ⟨by have := col_lt (n - 1 - u) (2 ^ u); rwa [e] at this, fun s hs => ?_⟩
  rw [col_bit, e]
  unfold fS
  rw [decide_eq_true hs, decide_eq_true hu]
def canB (hs : List (Nat × Nat × Nat)) (m b : Nat) : Bool := if (wh hs (m, 0)).1 = 0 then decide ((wh hs (m, 0)).2 = b) else true
theorem worth_can {hs : List (Nat × Nat × Nat)} (F : FlatOk hs) {n m b sx z : Nat} (hn : n ≤ 62) (hlt : ∀ e ∈ hs, e.2.1 < 2 ^ n) (hm : m < 2 ^ n) (hb : b < 2)
    (hsx : BitsOf (2 ^ n) sx (fun s => (canon hs).all fun l => holdsB l (fS n s))) (hz : BitsOf (2 ^ n) z (fun s => holdsB (m, b) (fS n s))) : 0 < sx &&& z ↔ canB hs m b = true := by
  have m63 : m < 2 ^ 63 := Nat.lt_of_lt_of_le hm (Nat.pow_le_pow_right (by decide) (by omega))
  have r2 := wh_bit F.bit (m, 0) (by show 0 < 2; decide)
  have some_ : (0 < sx &&& z) ↔ ∃ f, sol hs f ∧ holdsL (m, b) f := by
    rw [(hsx.and hz).pos]
    constructor
    · rintro ⟨s, _, h⟩
      rw [Bool.and_eq_true, all_canon F, holdsB_iff] at h
      exact ⟨_, h⟩
    · rintro ⟨f, h1, h2⟩
      obtain ⟨s, hs1, hs2⟩ := holds_num (n := n) f
      refine ⟨s, hs1, ?_⟩
      rw [Bool.and_eq_true, all_canon F, holdsB_iff]
      exact ⟨fun e he => (hs2 e.2 (hlt e he)).mpr (h1 e he), (hs2 (m, b) hm).mpr h2⟩
  rw [some_]
  obtain ⟨w1, w2⟩ := wh_row hs m 0 b
  rw [Nat.xor_zero] at w2
  unfold canB
  by_cases zz : (wh hs (m, 0)).1 = 0
  · rw [if_pos zz, decide_eq_true_eq]
    have key : ∀ f, sol hs f → (holdsL (m, b) f ↔ (wh hs (m, 0)).2 = b) := fun f s => by
      rw [flat_told F (l := (m, b)) hb (by rw [← w1]; exact zz) s, ← w2]
      have h1 : (wh hs (m, 0)).2 = 0 ∨ (wh hs (m, 0)).2 = 1 := by omega
      have h2 : b = 0 ∨ b = 1 := by omega
      rcases h1 with h1 | h1 <;> rcases h2 with h2 | h2 <;> rw [h1, h2] <;> decide
    constructor
    · rintro ⟨f, s, h⟩
      exact (key f s).mp h
    · intro h
      obtain ⟨f, s⟩ := flat_has F
      exact ⟨f, s, (key f s).mpr h⟩
  · rw [if_neg zz]
    exact ⟨fun _ => rfl, fun _ => flat_free F (l := (m, b)) m63 hb (by rw [← w1]; exact zz)⟩
def flatD (hs : List (Nat × Nat × Nat)) : PyData := .tuple ((canon hs).map lineD)
theorem dp_lines {K : PySem.W.Frag} {H : Hp} : ∀ {us : List V} {ls : List (Nat × Nat)}, Paired (LineV K H) us ls → DpAll K H us (ls.map lineD)
  | _, _, .nil => .nil
  | _, _, .cons h t => .cons (dp_line h) (dp_lines t)
theorem dp_flat {K : PySem.W.Frag} {H : Hp} {v : V} {hs : List (Nat × Nat × Nat)} (h : FlatV K H v hs) : Dp K H v (flatD hs) := by
  obtain ⟨t, us, rfl, h1, h2⟩ := h
  exact .tup h1 (dp_lines h2)
theorem weight_line {l : Nat × Nat} (h : l.2 < 2) : (lineD l).weight ≤ 444 := by
  have w1 := weight_sumD l.1
  have w2 : PyData.weight (.int (l.2 : Int)) ≤ 1 := weight_int (show l.2 < 2 ^ 1 by omega)
  show (sumD l.1).weight + 1 + (PyData.weight (.int (l.2 : Int)) + 1 + 0) ≤ 444
  omega
theorem weight_lines : ∀ {ls : List (Nat × Nat)}, (∀ l ∈ ls, l.2 < 2) → PyData.weightAll (ls.map lineD) ≤ 445 * ls.length
  | [], _ => Nat.zero_le _
  | l :: ls, h => by
    have w1 := weight_line (h l List.mem_cons_self)
    have w2 := weight_lines fun x hx => h x (List.mem_cons_of_mem _ hx)
    show (lineD l).weight + 1 + PyData.weightAll (ls.map lineD) ≤ _
    rw [List.length_cons]
    omega
theorem depth_lines : ∀ ls : List (Nat × Nat), PyData.depthAll (ls.map lineD) ≤ 2
  | [] => Nat.zero_le _
  | l :: ls => by
    show max (lineD l).depth (PyData.depthAll (ls.map lineD)) ≤ 2
    rw [depth_lineD]
    exact Nat.max_le.mpr ⟨Nat.le_refl _, depth_lines ls⟩
theorem flatD_facts {hs : List (Nat × Nat × Nat)} (F : FlatOk hs) : nice (flatD hs) = true ∧ (flatD hs).depth ≤ 3 ∧ (flatD hs).weight ≤ 30000 := by
  refine ⟨?_, ?_, ?_⟩
  · refine niceAll_iff.mpr fun x hx => ?_
    obtain ⟨l, hl, rfl⟩ := List.mem_map.mp hx
    exact nice_line (canon_lt F l hl).2
  · show PyData.depthAll _ + 1 ≤ 3
    have := depth_lines (canon hs)
    omega
  · have w := weight_lines (ls := canon hs) fun l hl => (canon_lt F l hl).2
    have := canon_len hs
    show PyData.weightAll _ ≤ 30000
    omega
theorem pairFD_facts {hs : List (Nat × Nat × Nat)} (F : FlatOk hs) (m : Nat) : nice (.list [flatD hs, sumD m]) = true ∧ (PyData.list [flatD hs, sumD m]).depth ≤ 40 ∧ (PyData.list [flatD hs, sumD m]).weight ≤ 2 ^ 20 := by
  obtain ⟨f1, f2, f3⟩ := flatD_facts F
  refine ⟨?_, ?_, ?_⟩
  · refine niceAll_iff.mpr fun x hx => ?_
    rcases List.mem_cons.mp hx with rfl | hx
    · exact f1
    · rcases List.mem_cons.mp hx with rfl | hx
      · exact nice_sumD m
      · cases hx
  · show max (flatD hs).depth (max (sumD m).depth 0) + 1 ≤ 40
    rw [depth_sumD]
    have := Nat.max_le.mpr ⟨f2, (show max 1 0 ≤ 3 by decide)⟩
    omega
  · have w := weight_sumD m
    show (flatD hs).weight + 1 + ((sumD m).weight + 1 + 0) ≤ 2 ^ 20
    omega
def toldD (hs : List (Nat × Nat × Nat)) (m : Nat) : PyData := if (wh hs (m, 0)).1 = 0 then .int ((wh hs (m, 0)).2 : Int) else .none
theorem FlatV.bag {K : PySem.W.Frag} {H H' : Hp} {b c : Addr} {v : V} {hs : List (Nat × Nat × Nat)} (B : BagAt K H b c) (s : But b H H') (h : FlatV K H v hs) : FlatV K H' v hs := by
  obtain ⟨y, e⟩ := B.lst
  obtain ⟨t, us, rfl, h1, h2⟩ := h
  exact ⟨t, us, rfl, sqT_but e s h1, lines_but e s h2⟩
theorem RoomV.bag {K : PySem.W.Frag} {H H' : Hp} {b c : Addr} {v : V} {n : Nat} (B : BagAt K H b c) (s : But b H H') (h : RoomV K H v n) : RoomV K H' v n := by
  obtain ⟨y, e⟩ := B.lst
  obtain ⟨t, d, cs, rfl, h1, h2, h3⟩ := h
  exact ⟨t, d, cs, rfl, sqT_but e s h1, sqT_but e s h2, h3⟩
theorem dp_told {K : PySem.W.Frag} {H : Hp} (hs : List (Nat × Nat × Nat)) (m : Nat) : Dp K H (toldV hs m) (toldD hs m) := by
  unfold toldV toldD
  split
  · exact .int _
  · exact .non
theorem toldD_facts {hs : List (Nat × Nat × Nat)} (F : FlatOk hs) (m : Nat) : nice (toldD hs m) = true ∧ (toldD hs m).depth ≤ 40 ∧ (toldD hs m).weight ≤ 2 ^ 20 := by
  have r2 := wh_bit F.bit (m, 0) (by show 0 < 2; decide)
  unfold toldD
  split
  · refine ⟨?_, Nat.zero_le _, Nat.le_trans (weight_int (k := 1) (by show (wh hs (m, 0)).2 < 2 ^ 1; omega)) (by decide)⟩
    show decide _ = true
    exact decide_eq_true (Nat.lt_of_lt_of_le r2 (by decide))
  · exact ⟨rfl, Nat.zero_le _, Nat.zero_le _⟩
def optFD : Option (List (Nat × Nat × Nat)) → PyData
  | none => .none
  | some hs => flatD hs
theorem dp_optF {K : PySem.W.Frag} {H : Hp} {v : V} {o : Option (List (Nat × Nat × Nat))} (h : OptFlat K H v o) : Dp K H v (optFD o) := by
  cases o with
  | none =>
    have h : v = .non := h
    subst h
    exact .non
  | some hs => exact dp_flat h
theorem optFD_facts {ls : List (Nat × Nat)} (hl : ∀ l ∈ ls, l.1 < 2 ^ 63 ∧ l.2 < 2) : nice (optFD (lflat ls)) = true ∧ (optFD (lflat ls)).depth ≤ 3 ∧ (optFD (lflat ls)).weight ≤ 30000 := by
  cases q : lflat ls with
  | none => exact ⟨rfl, Nat.zero_le _, Nat.zero_le _⟩
  | some hs => exact flatD_facts (lflat_flat ls hl hs q)
theorem pairOF_facts {ls ks : List (Nat × Nat)} (hl : ∀ l ∈ ls, l.1 < 2 ^ 63 ∧ l.2 < 2) (hk : ∀ l ∈ ks, l.1 < 2 ^ 63 ∧ l.2 < 2) :
    nice (.tuple [optFD (lflat ls), optFD (lflat ks)]) = true ∧ (PyData.tuple [optFD (lflat ls), optFD (lflat ks)]).depth ≤ 40 ∧ (PyData.tuple [optFD (lflat ls), optFD (lflat ks)]).weight ≤ 2 ^ 20 := by
  obtain ⟨a1, a2, a3⟩ := optFD_facts hl
  obtain ⟨b1, b2, b3⟩ := optFD_facts hk
  refine ⟨?_, ?_, ?_⟩
  · refine niceAll_iff.mpr fun x hx => ?_
    rcases List.mem_cons.mp hx with rfl | hx
    · exact a1
    · rcases List.mem_cons.mp hx with rfl | hx
      · exact b1
      · cases hx
  · show max _ (max _ 0) + 1 ≤ 40
    have := Nat.max_le.mpr ⟨a2, Nat.max_le.mpr ⟨b2, Nat.zero_le 3⟩⟩
    omega
  · show (optFD (lflat ls)).weight + 1 + ((optFD (lflat ks)).weight + 1 + 0) ≤ 2 ^ 20
    omega
end Es
set_option Elab.async false
set_option linter.all false
set_option maxRecDepth 100000
set_option maxHeartbeats 4000000
namespace Es
open PySem PySem.Spec PyProof.Rows L2
inductive Tree where
  | leaf (i : Nat)
  | ask (m : Nat) (l r : Tree)
def Tree.ht : Tree → Nat
  | .leaf _ => 0
  | .ask _ l r => 1 + max l.ht r.ht
def Tree.sz : Tree → Nat
  | .leaf _ => 1
  | .ask _ l r => l.sz + r.sz
def Tree.ok : Tree → Prop
  | .leaf i => i < 2 ^ 30
  | .ask _ l r => l.ok ∧ r.ok
def Tree.lvs : Tree → List (Nat × Nat) → List (Nat × List (Nat × Nat))
  | .leaf i, ls => [(i, ls)]
  | .ask m l r, ls => l.lvs (ls ++ [(m, 0)]) ++ r.lvs (ls ++ [(m, 1)])
theorem Tree.sz_pos : ∀ t : Tree, 0 < t.sz
  | .leaf _ => Nat.one_pos
  | .ask _ l r => Nat.add_pos_left l.sz_pos _
theorem Tree.lvs_len : ∀ (t : Tree) (ls : List (Nat × Nat)), (t.lvs ls).length = t.sz
  | .leaf _, _ => rfl
  | .ask m l r, ls => by
    rw [Tree.lvs, List.length_append, l.lvs_len, r.lvs_len]
    rfl
theorem Tree.lvs_le : ∀ (t : Tree) (ls : List (Nat × Nat)), ∀ e ∈ t.lvs ls, e.2.length ≤ ls.length + t.ht
  | .leaf _, ls => fun e he => by
    rw [Tree.lvs, List.mem_singleton] at he
    rw [he]
    exact Nat.le_add_right _ _
  | .ask m l r, ls => fun e he => by
    rw [Tree.lvs, List.mem_append] at he
    rw [Tree.ht]
    rcases he with he | he
    · have := l.lvs_le _ e he
      rw [List.length_append, List.length_singleton] at this
      omega
    · have := r.lvs_le _ e he
      rw [List.length_append, List.length_singleton] at this
      omega
theorem Tree.lvs_ht : ∀ (t : Tree) (ls : List (Nat × Nat)), ∃ e ∈ t.lvs ls, e.2.length = ls.length + t.ht
  | .leaf i, ls => ⟨(i, ls), by rw [Tree.lvs]; exact List.mem_singleton.mpr rfl, rfl⟩
  | .ask m l r, ls => by
    rw [Tree.ht, Tree.lvs]
    by_cases h : r.ht ≤ l.ht
    · obtain ⟨e, he, q⟩ := l.lvs_ht (ls ++ [(m, 0)])
      refine ⟨e, List.mem_append_left _ he, ?_⟩
      rw [q, List.length_append, List.length_singleton, Nat.max_eq_left h]
      omega
    · obtain ⟨e, he, q⟩ := r.lvs_ht (ls ++ [(m, 1)])
      refine ⟨e, List.mem_append_right _ he, ?_⟩
      rw [q, List.length_append, List.length_singleton, Nat.max_eq_right (by omega)]
      omega
theorem Tree.lvs_bits : ∀ (t : Tree) (ls : List (Nat × Nat)), t.ok → (∀ l ∈ ls, l.2 < 2) → ∀ e ∈ t.lvs ls, e.1 < 2 ^ 30 ∧ ∀ l ∈ e.2, l.2 < 2
  | .leaf i, ls, o, h => fun e he => by
    rw [Tree.lvs, List.mem_singleton] at he
    rw [he]
    exact ⟨o, h⟩
  | .ask m l r, ls, o, h => fun e he => by
    rw [Tree.lvs, List.mem_append] at he
    have more : ∀ b : Nat, b < 2 → ∀ x ∈ ls ++ [(m, b)], x.2 < 2 := fun b hb x hx => by
      rcases List.mem_append.mp hx with hx | hx
      · exact h x hx
      · rw [List.mem_singleton.mp hx]
        exact hb
    rcases he with he | he
    · exact l.lvs_bits _ o.1 (more 0 (by decide)) e he
    · exact r.lvs_bits _ o.2 (more 1 (by decide)) e he
def endV : V := .str (Str.ofString "end")
def askV : V := .str (Str.ofString "ask")
def TreeV (K : PySem.W.Frag) (H : Hp) : V → Tree → Prop
  | v, .leaf i => ∃ a, v = .ref a ∧ SqT K H a [endV, .int (i : Int)]
  | v, .ask m l r => ∃ a w v0 v1, v = .ref a ∧ SqT K H a [askV, w, v0, v1] ∧ SumV K H w m ∧ TreeV K H v0 l ∧ TreeV K H v1 r
theorem TreeV.same {K : PySem.W.Frag} {H H' : Hp} (s : Same H H') : ∀ {v : V} {t : Tree}, TreeV K H v t → TreeV K H' v t
  | v, .leaf i, ⟨a, e, h⟩ => ⟨a, e, sqT_same s h⟩
  | v, .ask m l r, ⟨a, w, v0, v1, e, h, hw, h0, h1⟩ => ⟨a, w, v0, v1, e, sqT_same s h, hw.same s, TreeV.same s h0, TreeV.same s h1⟩
theorem TreeV.but {K : PySem.W.Frag} {H H' : Hp} {b : Addr} {ys : List V} (hb : H b = some (.lst ys)) (s : But b H H') : ∀ {v : V} {t : Tree}, TreeV K H v t → TreeV K H' v t
  | v, .leaf i, ⟨a, e, h⟩ => ⟨a, e, sqT_but hb s h⟩
  | v, .ask m l r, ⟨a, w, v0, v1, e, h, hw, h0, h1⟩ => ⟨a, w, v0, v1, e, sqT_but hb s h, hw.but hb s, TreeV.but hb s h0, TreeV.but hb s h1⟩
theorem TreeV.bag {K : PySem.W.Frag} {H H' : Hp} {b c : Addr} {v : V} {t : Tree} (B : BagAt K H b c) (s : But b H H') (h : TreeV K H v t) : TreeV K H' v t := by
  obtain ⟨y, e⟩ := B.lst
  exact TreeV.but e s h
def treeD : Tree → PyData
  | .leaf i => .tuple [.str (Str.ofString "end"), .int (i : Int)]
  | .ask m l r => .tuple [.str (Str.ofString "ask"), sumD m, treeD l, treeD r]
theorem dp_tree {K : PySem.W.Frag} {H : Hp} : ∀ {v : V} {t : Tree}, TreeV K H v t → Dp K H v (treeD t)
  | v, .leaf i, ⟨a, e, h⟩ => by
    subst e
    exact .tup h (.cons (.str _) (.cons (.int _) .nil))
  | v, .ask m l r, ⟨a, w, v0, v1, e, h, hw, h0, h1⟩ => by
    subst e
    exact .tup h (.cons (.str _) (.cons (dp_sum hw) (.cons (dp_tree h0) (.cons (dp_tree h1) .nil))))
theorem nice_end : nice (.str (Str.ofString "end")) = true := by decide +kernel
theorem nice_ask : nice (.str (Str.ofString "ask")) = true := by decide +kernel
theorem nice_nat {i : Nat} (h : i < 2 ^ 30) : nice (.int (i : Int)) = true := by
  refine decide_eq_true ?_
  show i < 10 ^ 12
  exact Nat.lt_trans h (by decide)
theorem treeD_nice : ∀ {t : Tree}, t.ok → nice (treeD t) = true
  | .leaf i, o => niceAll_iff.mpr fun x hx => by
    rcases List.mem_cons.mp hx with rfl | hx
    · exact nice_end
    · rw [List.mem_singleton.mp hx]
      exact nice_nat o
  | .ask m l r, o => niceAll_iff.mpr fun x hx => by
    rcases List.mem_cons.mp hx with rfl | hx
    · exact nice_ask
    · rcases List.mem_cons.mp hx with rfl | hx
      · exact nice_sumD m
      · rcases List.mem_cons.mp hx with rfl | hx
        · exact treeD_nice o.1
        · rw [List.mem_singleton.mp hx]
          exact treeD_nice o.2
theorem treeD_depth : ∀ t : Tree, (treeD t).depth ≤ t.ht + 2
  | .leaf i => by
    show max 0 (max 0 0) + 1 ≤ 0 + 2
    decide
  | .ask m l r => by
    show max 0 (max (sumD m).depth (max (treeD l).depth (max (treeD r).depth 0))) + 1 ≤ (1 + max l.ht r.ht) + 2
    rw [depth_sumD]
    have a := treeD_depth l
    have b := treeD_depth r
    omega
theorem treeD_weight : ∀ t : Tree, t.ok → (treeD t).weight + 500 ≤ 1000 * t.sz
  | .leaf i, o => by
    have w : PyData.weight (.int (i : Int)) ≤ 30 := weight_int (show i < 2 ^ 30 from o)
    have e : PyData.weight (.str (Str.ofString "end")) ≤ 10 := by decide +kernel
    show PyData.weight (.str (Str.ofString "end")) + 1 + (PyData.weight (.int (i : Int)) + 1 + 0) + 500 ≤ 1000 * 1
    omega
  | .ask m l r, o => by
    have w := weight_sumD m
    have a := treeD_weight l o.1
    have b := treeD_weight r o.2
    have e : PyData.weight (.str (Str.ofString "ask")) ≤ 10 := by decide +kernel
    show PyData.weight (.str (Str.ofString "ask")) + 1 + ((sumD m).weight + 1 + ((treeD l).weight + 1 + ((treeD r).weight + 1 + 0))) + 500 ≤ 1000 * (l.sz + r.sz)
    omega
def EntV (K : PySem.W.Frag) (H : Hp) (v : V) (e : Nat × List (Nat × Nat)) : Prop := ∃ a b us, v = .ref a ∧ SqT K H a [.int (e.1 : Int), .ref b] ∧ SqT K H b us ∧ Paired (LineV K H) us e.2
theorem EntV.same {K : PySem.W.Frag} {H H' : Hp} {v : V} {e : Nat × List (Nat × Nat)} (s : Same H H') (h : EntV K H v e) : EntV K H' v e := by
  obtain ⟨a, b, us, q, h1, h2, h3⟩ := h
  exact ⟨a, b, us, q, sqT_same s h1, sqT_same s h2, lines_same s h3⟩
theorem EntV.but {K : PySem.W.Frag} {H H' : Hp} {c : Addr} {ys : List V} {v : V} {e : Nat × List (Nat × Nat)} (hb : H c = some (.lst ys)) (s : But c H H') (h : EntV K H v e) : EntV K H' v e := by
  obtain ⟨a, b, us, q, h1, h2, h3⟩ := h
  exact ⟨a, b, us, q, sqT_but hb s h1, sqT_but hb s h2, lines_but hb s h3⟩
def entD (e : Nat × List (Nat × Nat)) : PyData := .tuple [.int (e.1 : Int), .tuple (e.2.map lineD)]
theorem dp_ent {K : PySem.W.Frag} {H : Hp} {v : V} {e : Nat × List (Nat × Nat)} (h : EntV K H v e) : Dp K H v (entD e) := by
  obtain ⟨a, b, us, rfl, h1, h2, h3⟩ := h
  exact .tup h1 (.cons (.int _) (.cons (.tup h2 (dp_lines h3)) .nil))
theorem dp_ents {K : PySem.W.Frag} {H : Hp} : ∀ {us : List V} {es : List (Nat × List (Nat × Nat))}, Paired (EntV K H) us es → DpAll K H us (es.map entD)
  | _, _, .nil => .nil
  | _, _, .cons h t => .cons (dp_ent h) (dp_ents t)
def toldT (t : Tree) : PyData := .list [.list ((t.lvs []).map entD), .int (t.ht : Int)]
theorem entD_facts {e : Nat × List (Nat × Nat)} (h1 : e.1 < 2 ^ 30) (h2 : ∀ l ∈ e.2, l.2 < 2) (h3 : e.2.length ≤ 25) : nice (entD e) = true ∧ (entD e).depth ≤ 4 ∧ (entD e).weight ≤ 12000 := by
  refine ⟨niceAll_iff.mpr fun x hx => ?_, ?_, ?_⟩
  · rcases List.mem_cons.mp hx with rfl | hx
    · exact nice_nat h1
    · rw [List.mem_singleton.mp hx]
      refine niceAll_iff.mpr fun y hy => ?_
      obtain ⟨l, hl, rfl⟩ := List.mem_map.mp hy
      exact nice_line (h2 l hl)
  · have := depth_lines e.2
    show max 0 (max (PyData.depthAll (e.2.map lineD) + 1) 0) + 1 ≤ 4
    omega
  · have w := weight_int (i := (e.1 : Int)) (k := 30) (show e.1 < 2 ^ 30 from h1)
    have w2 := weight_lines h2
    show PyData.weight (.int (e.1 : Int)) + 1 + (PyData.weightAll (e.2.map lineD) + 1 + 0) ≤ 12000
    omega
theorem ents_weight : ∀ {es : List (Nat × List (Nat × Nat))}, (∀ e ∈ es, (entD e).weight ≤ 12000) → PyData.weightAll (es.map entD) ≤ 12001 * es.length
  | [], _ => Nat.zero_le _
  | e :: es, h => by
    have a := h e List.mem_cons_self
    have b := ents_weight fun x hx => h x (List.mem_cons_of_mem _ hx)
    show (entD e).weight + 1 + PyData.weightAll (es.map entD) ≤ _
    rw [List.length_cons]
    omega
theorem ents_depth : ∀ {es : List (Nat × List (Nat × Nat))}, (∀ e ∈ es, (entD e).depth ≤ 4) → PyData.depthAll (es.map entD) ≤ 4
  | [], _ => Nat.zero_le _
  | e :: es, h => Nat.max_le.mpr ⟨h e List.mem_cons_self, ents_depth fun x hx => h x (List.mem_cons_of_mem _ hx)⟩
theorem toldT_facts {t : Tree} (o : t.ok) (h : t.ht ≤ 25) (s : t.sz ≤ 64) : nice (toldT t) = true ∧ (toldT t).depth ≤ 40 ∧ (toldT t).weight ≤ 2 ^ 20 := by
  have all : ∀ e ∈ t.lvs [], nice (entD e) = true ∧ (entD e).depth ≤ 4 ∧ (entD e).weight ≤ 12000 := fun e he => by
    obtain ⟨b1, b2⟩ := t.lvs_bits [] o (fun l hl => by cases hl) e he
    have b3 := t.lvs_le [] e he
    rw [List.length_nil, Nat.zero_add] at b3
    exact entD_facts b1 b2 (by omega)
  refine ⟨niceAll_iff.mpr fun x hx => ?_, ?_, ?_⟩
  · rcases List.mem_cons.mp hx with rfl | hx
    · refine niceAll_iff.mpr fun y hy => ?_
      obtain ⟨e, he, rfl⟩ := List.mem_map.mp hy
      exact (all e he).1
    · rw [List.mem_singleton.mp hx]
      exact nice_nat (by omega)
  · have := ents_depth fun e he => (all e he).2.1
    show max (PyData.depthAll ((t.lvs []).map entD) + 1) (max 0 0) + 1 ≤ 40
    omega
  · have w := ents_weight fun e he => (all e he).2.2
    rw [t.lvs_len] at w
    have w2 := weight_int (i := (t.ht : Int)) (k := 6) (show t.ht < 2 ^ 6 by omega)
    show PyData.weightAll ((t.lvs []).map entD) + 1 + (PyData.weight (.int (t.ht : Int)) + 1 + 0) ≤ 2 ^ 20
    omega
def sp_height_of (K : PySem.W.Frag) : Sp := fun vs H Q _ => ∃ (v : V) (t : Tree), vs = [v] ∧ TreeV K H v t ∧ t.ht ≤ 25 ∧ t.sz ≤ 64 ∧ ∀ H', Same H H' → Q (.int (t.ht : Int)) H'
def sp_leaves_of (K : PySem.W.Frag) : Sp := fun vs H Q _ => ∃ (v : V) (t : Tree), vs = [v] ∧ TreeV K H v t ∧ t.ht ≤ 25 ∧ t.sz ≤ 64 ∧
  ∀ H' a us, Same H H' → H a = none → H' a = some (.lst us) → Paired (EntV K H') us (t.lvs []) → Q (.ref a) H'
def sp_law_mixed (K : PySem.W.Frag) : Sp := fun vs H Q _ => ∃ (b c a : Addr) (xs : List V), vs = [.ref b, .ref a] ∧ BagAt K H b c ∧ a ≠ b ∧ Sq K H a xs ∧ xs.length ≤ 1000 ∧
  ∀ H' p ys, But b H H' → BagAt K H' b c → H p = none → p ≠ b → H' p = some (.lst ys) → ys.Perm xs → Q (.ref p) H'
def sp_law_any_tree (K : PySem.W.Frag) (d : Nat) : Sp := fun vs H Q _ => ∃ (b c : Addr) (n k e : Nat), vs = [.ref b, .int (n : Int), .int (k : Int), .int (e : Int)] ∧ BagAt K H b c ∧ 0 < n ∧ n ≤ 62 ∧ 0 < k ∧ k < 2 ^ 30 ∧ e < d ∧
  ∀ H' v t, But b H H' → BagAt K H' b c → TreeV K H' v t → t.ok → t.ht ≤ e → t.sz ≤ 2 ^ e → Q v H'
def sp_law_any_treeD (K : PySem.W.Frag) : Sp := sp_law_any_tree K 8
def sp_law_tree_leaves (K : PySem.W.Frag) (d : Nat) : Sp := fun vs H Q _ => ∃ (v : V) (b : Addr) (us : List V) (t : Tree) (ls : List (Nat × Nat)), vs = [v, .ref b] ∧ TreeV K H v t ∧ SqT K H b us ∧ Paired (LineV K H) us ls ∧ t.ht < d ∧ ls.length + t.ht ≤ 40 ∧ t.sz ≤ 64 ∧
  ∀ H' a es, Same H H' → H a = none → H' a = some (.lst es) → Paired (EntV K H') es (t.lvs ls) → Q (.ref a) H'
def sp_law_tree_leavesD (K : PySem.W.Frag) : Sp := sp_law_tree_leaves K 26
def sp_law_tree_height (K : PySem.W.Frag) (d : Nat) : Sp := fun vs H Q _ => ∃ (v : V) (t : Tree), vs = [v] ∧ TreeV K H v t ∧ t.ht < d ∧ t.ht ≤ 40 ∧ ∀ H', Same H H' → Q (.int (t.ht : Int)) H'
def sp_law_tree_heightD (K : PySem.W.Frag) : Sp := sp_law_tree_height K 26
def sp_law_lopsided (K : PySem.W.Frag) : Sp := fun vs H Q _ => ∃ (b c : Addr) (n k e : Nat), vs = [.ref b, .int (n : Int), .int (k : Int), .int (e : Int)] ∧ BagAt K H b c ∧ 0 < n ∧ n ≤ 62 ∧ 0 < k ∧ k < 2 ^ 30 ∧ e ≤ 20 ∧
  ∀ H' v t, But b H H' → BagAt K H' b c → TreeV K H' v t → t.ok → t.ht ≤ e + 1 → t.sz ≤ 2 * e + 1 → Q v H'
theorem no_law_any_tree {K : PySem.W.Frag} {vs : List V} {H : Hp} {Q : VK} {E : XK} (h : sp_law_any_tree K 0 vs H Q E) : False := by
  obtain ⟨_, _, _, _, _, _, _, _, _, _, _, h, _⟩ := h
  exact Nat.not_lt_zero _ h
theorem no_law_tree_leaves {K : PySem.W.Frag} {vs : List V} {H : Hp} {Q : VK} {E : XK} (h : sp_law_tree_leaves K 0 vs H Q E) : False := by
  obtain ⟨_, _, _, _, _, _, _, _, _, h, _⟩ := h
  exact Nat.not_lt_zero _ h
theorem no_law_tree_height {K : PySem.W.Frag} {vs : List V} {H : Hp} {Q : VK} {E : XK} (h : sp_law_tree_height K 0 vs H Q E) : False := by
  obtain ⟨_, _, _, _, h, _⟩ := h
  exact Nat.not_lt_zero _ h
theorem cat_line {K : PySem.W.Frag} {H : Hp} {b p : Addr} {us : List V} {x : V} {Q : VK} (hb : SqT K H b us) (hl : us.length ≤ 100) (hp : H p = some (.tup [x])) (q : ∀ H' p', Same H H' → SqT K H' p' (us ++ [x]) → Q (.ref p') H') : rCatA K (.ref b) (.ref p) H Q := by
  refine ⟨b, p, us, [x], rfl, rfl, hb, .inl (.inl hp), Nat.le_trans (Nat.add_le_add hl (show [x].length ≤ 1 from Nat.le_refl _)) (by decide), fun e => ?_, (fun (_ : us ≠ []) (e : [x] = []) => nomatch e), fun _ _ r nr => q _ r (same_new nr) (.inl (.inl upd_same))⟩
  subst e
  exact q H p (Same.refl _) (.inl (.inl hp))
theorem ent_append {α β : Type} {R : α → β → Prop} : ∀ {xs : List α} {ys : List β} {zs : List α} {ws : List β}, PySem.Paired R xs ys → PySem.Paired R zs ws → PySem.Paired R (xs ++ zs) (ys ++ ws)
  | _, _, _, _, .nil, k => k
  | _, _, _, _, .cons h t, k => .cons h (ent_append t k)
def Tree.nd : Tree → Nat
  | .leaf _ => 1
  | .ask _ l r => 1 + (l.nd + r.nd)
abbrev Stk := List (Tree × List (Nat × Nat))
def fl (stk : Stk) : List (Nat × List (Nat × Nat)) := stk.reverse.flatMap fun p => p.1.lvs p.2
theorem fl_snoc (stk : Stk) (p : Tree × List (Nat × Nat)) : fl (stk ++ [p]) = p.1.lvs p.2 ++ fl stk := by
  unfold fl
  rw [List.reverse_append]
  rfl
def ndS (stk : Stk) : Nat := (stk.map fun p => p.1.nd).sum
theorem ndS_snoc (stk : Stk) (p : Tree × List (Nat × Nat)) : ndS (stk ++ [p]) = ndS stk + p.1.nd := by
  unfold ndS
  rw [List.map_append, List.sum_append]
  simp
theorem fl_len (stk : Stk) : stk.length ≤ (fl stk).length := by
  unfold fl
  rw [← List.length_reverse (as := stk)]
  generalize stk.reverse = s
  induction s with
  | nil => exact Nat.le_refl _
  | cons p s ih =>
    rw [List.flatMap_cons, List.length_append, List.length_cons, Tree.lvs_len]
    have := p.1.sz_pos
    omega
def StkV (K : PySem.W.Frag) (H : Hp) (v : V) (p : Tree × List (Nat × Nat)) : Prop := ∃ a w b us, v = .ref a ∧ SqT K H a [w, .ref b] ∧ TreeV K H w p.1 ∧ SqT K H b us ∧ Paired (LineV K H) us p.2
theorem StkV.same {K : PySem.W.Frag} {H H' : Hp} {v : V} {p : Tree × List (Nat × Nat)} (s : Same H H') (h : StkV K H v p) : StkV K H' v p := by
  obtain ⟨a, w, b, us, e, h1, h2, h3, h4⟩ := h
  exact ⟨a, w, b, us, e, sqT_same s h1, h2.same s, sqT_same s h3, lines_same s h4⟩
theorem StkV.but {K : PySem.W.Frag} {H H' : Hp} {c : Addr} {ys : List V} {v : V} {p : Tree × List (Nat × Nat)} (hb : H c = some (.lst ys)) (s : But c H H') (h : StkV K H v p) : StkV K H' v p := by
  obtain ⟨a, w, b, us, e, h1, h2, h3, h4⟩ := h
  exact ⟨a, w, b, us, e, sqT_but hb s h1, h2.but hb s, sqT_but hb s h3, lines_but hb s h4⟩
theorem paired_snoc_inv {α β : Type} {R : α → β → Prop} {xs : List α} {ys : List β} {y : β} (h : PySem.Paired R xs (ys ++ [y])) : ∃ zs z, xs = zs ++ [z] ∧ PySem.Paired R zs ys ∧ R z y := by
  induction ys generalizing xs with
  | nil =>
    cases h with
    | cons r t =>
      cases t
      exact ⟨[], _, rfl, .nil, r⟩
  | cons w ys ih =>
    cases h with
    | cons r t =>
      obtain ⟨zs, z, rfl, p, q⟩ := ih t
      exact ⟨_ :: zs, z, rfl, .cons r p, q⟩
theorem perm_two {α : Type} {xs : List α} {a b : α} (p : xs.Perm [a, b]) : xs = [a, b] ∨ xs = [b, a] := by
  have l := p.length_eq
  match xs, l with
  | [x, y], _ =>
    have m := p.mem_iff.mp (List.mem_cons_self (a := x) (l := [y]))
    rcases List.mem_cons.mp m with rfl | m
    · have q := List.perm_singleton.mp (List.Perm.cons_inv p)
      rw [q]
      exact .inl rfl
    · have m := List.mem_singleton.mp m
      subst m
      have q := List.perm_singleton.mp (List.Perm.cons_inv (p.trans (List.Perm.swap x a [])))
      rw [q]
      exact .inr rfl
end Es
set_option Elab.async false
set_option linter.all false
set_option maxRecDepth 100000
set_option maxHeartbeats 4000000
namespace Es
open PySem PySem.Spec PyProof.Rows L2
def topS (i : Nat) : Stmt := PySem.Challenge.pw_eithersums_k31_heights_and_leaves.main.body.getD i (.Pass ⟨0, 0, 0, 0⟩)
abbrev s_height_of : Stmt := topS 1
theorem sc_height_of : FnScope ["tree", "_", "lines"] ["tree"] (defScope s_height_of) := ⟨rfl, rfl, rfl, by decide +kernel, rfl, by decide +kernel, by decide +kernel⟩
abbrev s_leaves_of : Stmt := topS 2
theorem sc_leaves_of : FnScope ["tree", "found", "waiting", "part", "lines"] ["tree"] (defScope s_leaves_of) := ⟨rfl, rfl, rfl, by decide +kernel, rfl, by decide +kernel, by decide +kernel⟩
abbrev s_law_bag : Stmt := topS 4
theorem sc_law_bag : FnScope ["script", "cell"] ["script"] (defScope s_law_bag) := ⟨rfl, rfl, rfl, by decide +kernel, rfl, by decide +kernel, by decide +kernel⟩
abbrev s_law_take : Stmt := topS 5
theorem sc_law_take : FnScope ["bag", "many", "cell", "stirred", "value", "begin", "second"] ["bag", "many"] (defScope s_law_take) := ⟨rfl, rfl, rfl, by decide +kernel, rfl, by decide +kernel, by decide +kernel⟩
abbrev s_law_some : Stmt := topS 6
theorem sc_law_some : FnScope ["bag", "things"] ["bag", "things"] (defScope s_law_some) := ⟨rfl, rfl, rfl, by decide +kernel, rfl, by decide +kernel, by decide +kernel⟩
abbrev s_law_mixed : Stmt := topS 7
theorem sc_law_mixed : FnScope ["bag", "things", "found", "thing"] ["bag", "things"] (defScope s_law_mixed) := ⟨rfl, rfl, rfl, by decide +kernel, rfl, by decide +kernel, by decide +kernel⟩
abbrev s_law_alike : Stmt := topS 8
theorem sc_law_alike : FnScope ["found", "due"] ["found", "due"] (defScope s_law_alike) := ⟨rfl, rfl, rfl, by decide +kernel, rfl, by decide +kernel, by decide +kernel⟩
abbrev s_law_row : Stmt := topS 9
theorem sc_law_row : FnScope ["mask", "unknown"] ["mask"] (defScope s_law_row) := ⟨rfl, rfl, rfl, by decide +kernel, rfl, by decide +kernel, by decide +kernel⟩
abbrev s_law_any_row : Stmt := topS 10
theorem sc_law_any_row : FnScope ["bag", "many", "mask", "turn"] ["bag", "many"] (defScope s_law_any_row) := ⟨rfl, rfl, rfl, by decide +kernel, rfl, by decide +kernel, by decide +kernel⟩
abbrev s_law_any_tree : Stmt := topS 11
theorem sc_law_any_tree : FnScope ["bag", "many", "clauses", "deep", "row", "one"] ["bag", "many", "clauses", "deep"] (defScope s_law_any_tree) := ⟨rfl, rfl, rfl, by decide +kernel, rfl, by decide +kernel, by decide +kernel⟩
abbrev s_law_tree_leaves : Stmt := topS 12
theorem sc_law_tree_leaves : FnScope ["tree", "lines"] ["tree", "lines"] (defScope s_law_tree_leaves) := ⟨rfl, rfl, rfl, by decide +kernel, rfl, by decide +kernel, by decide +kernel⟩
abbrev s_law_tree_height : Stmt := topS 13
theorem sc_law_tree_height : FnScope ["tree"] ["tree"] (defScope s_law_tree_height) := ⟨rfl, rfl, rfl, by decide +kernel, rfl, by decide +kernel, by decide +kernel⟩
abbrev s_law_lopsided : Stmt := topS 14
theorem sc_law_lopsided : FnScope ["bag", "many", "clauses", "deep", "tree", "turn", "sides"] ["bag", "many", "clauses", "deep"] (defScope s_law_lopsided) := ⟨rfl, rfl, rfl, by decide +kernel, rfl, by decide +kernel, by decide +kernel⟩
abbrev s_law : Stmt := topS 15
theorem sc_law : FnScope ["script", "bag", "turn", "many", "clauses", "tree", "due", "shown", "again", "told"] ["script"] (defScope s_law) := ⟨rfl, rfl, rfl, by decide +kernel, rfl, by decide +kernel, by decide +kernel⟩
structure Txt (mg : Str → Option Value) : Prop where
  z_max : mg "max" = none
  z_len : mg "len" = none
  z_abs : mg "abs" = none
  z_int : mg "int" = none
  z_repr : mg "repr" = none
  z_tuple : mg "tuple" = none
  z_range : mg "range" = none
end Es
set_option Elab.async false
set_option linter.all false
set_option maxRecDepth 100000
set_option maxHeartbeats 4000000
namespace Es
open PySem PySem.Spec PyProof.Rows L2
section
variable {P : Program} {w : World} {K : PySem.W.Frag} {mg : Str → Option Value} {base : Heap}
theorem ok_law_bag {f : Addr} {fd : FuncData} (F : Fun K "_law_bag" "_law_bag" s_law_bag f fd) (T : Txt mg)  : FnG P w K mg base 1 f fd ["script"] (sp_law_bag K) := by
  refine okG F sc_law_bag (fun h => ?_) (fun cdv B out t0 G ys R E hr hg h => ?_)
  · obtain ⟨a, ns, rfl, _⟩ := h
    rfl
  · obtain ⟨a, ns, rfl, hS, hl, k⟩ := h
    refine ⟨_, (pss_one
        (ps_ret (pe_lst (pa_cons pe_int (pa_cons pe_int (pa_cons pe_int (pa_cons (pe_lc (own := [("cell", 1)]) rfl sc_law_bag.nd (pi_list (pe_slice sl_list (pv 0) po_none (po_some pe_int))) (blkOk_by (own := [("cell", 1)]) (N := ["script", "cell"]) (sc := defScope s_law_bag) (by decide +kernel)) (fun _ _ _ _ _ => (pg_name (i := 1) sc_law_bag.nd rfl (.inl rfl))) (fun _ _ _ _ _ => pts_nil) (fun _ _ _ _ _ => (pe_callB call_abs (by rfl) T.z_abs (by decide +kernel) (pa_cons (pv 1) pa_nil)))) pa_nil))))))), ?_⟩
    refine ⟨_, rfl, _, rfl, a, _, rfl, hS, fun p np => ?_⟩
    have s0 := same_new (o := .lst (cutV (ns.map V.int) none (some 63))) np
    obtain ⟨ds, eds, dsl⟩ : ∃ ds : List Int, cutV (ns.map V.int) none (some 63) = ds.map V.int ∧ ds.length ≤ ns.length := by
      have hl := cutV_length (ns.map V.int) none (some 63)
      unfold cutV at hl ⊢
      rw [← List.map_drop, ← List.map_take] at hl ⊢
      exact ⟨_, rfl, by simpa using hl⟩
    rw [eds] at s0 ⊢
    refine ⟨p, rfl, ⟨_, .inl (.inl upd_same)⟩, fun D hD => ?_⟩
    have nGD : G D = none := s0.free hD
    refine lc_list (K := K) (a := p) (xs := ds.map V.int) (fun i H => ∃ cs : List Int, H D = some (.lst (cs.map V.int)) ∧ Same (upd G p (.lst (ds.map V.int))) H ∧ cs.length = i ∧ ∀ c ∈ cs, 0 ≤ c)
      ⟨[], upd_same, same_new hD, rfl, fun c hc => by cases hc⟩ (fun i H _ ⟨_, _, s, _⟩ => .inl (.inl (s _ _ upd_same))) ?_ ?_
    · rintro i x H hi ⟨cs, ec, sa, lc, c0⟩
      obtain ⟨z, rfl⟩ : ∃ z, x = V.int z := by
        rw [List.getElem?_map] at hi
        cases e : ds[i]? with
        | none => rw [e] at hi; cases hi
        | some z => rw [e] at hi; exact ⟨z, (Option.some.inj hi).symm⟩
      have hil : i < ds.length := by
        have := (List.getElem?_eq_some_iff.mp hi).1
        simpa using this
      refine ⟨rfl, _, rfl, _, rfl, _, ec, ?_, cs ++ [if z < 0 then -z else z], ?_, same_mut sa hD, by simp [lc], ?_⟩
      · rw [List.length_map, lc]
        exact small1000 (by omega)
      · rw [upd_same]
        simp
      · intro c hc
        rcases List.mem_append.mp hc with hc | hc
        · exact c0 c hc
        · have hc : c = if z < 0 then -z else z := by simpa using hc
          subst hc
          split <;> omega
    · rintro H ⟨cs, ec, sa, lc, c0⟩
      refine ⟨by show 4 ≤ sizeLine; decide, fun b nb => ?_⟩
      have sb := same_new (o := .lst [V.int 0, V.int 1234567891, V.int 0, V.ref D]) nb
      refine k _ b D ((s0.trans sa).trans sb) ((s0.trans sa).free nb) nGD ⟨0, 1234567891, 0, cs, upd_same, .inl (.inl (sb _ _ ec)), ?_, by decide, by decide, by decide, by decide, c0, ?_⟩
      · exact (ne_of_none ec nb).symm
      · rw [lc, List.length_map]
        omega
end
end Es
set_option Elab.async false
set_option linter.all false
set_option maxRecDepth 100000
set_option maxHeartbeats 4000000
namespace Es
open PySem PySem.Spec PyProof.Rows L2
section
variable {P : Program} {w : World} {K : PySem.W.Frag} {mg : Str → Option Value} {base : Heap}
theorem ok_law_take {f : Addr} {fd : FuncData} (F : Fun K "_law_take" "_law_take" s_law_take f fd) (T : Txt mg)  : FnG P w K mg base 1 f fd ["bag", "many"] (sp_law_take K) := by
  refine okG F sc_law_take (fun h => ?_) (fun cdv B out t0 G ys R E hr hg h => ?_)
  · obtain ⟨b, c, n, rfl, _⟩ := h
    rfl
  · obtain ⟨b, c, n, rfl, ⟨x, y, z, cs, hb, hc, nbc, x0, y0, y1, z0, cs0, cl⟩, n0, n1, k⟩ := h
    have hu := hu_of hr
    refine ⟨_, (Evl.pss_cut
        (ps_if (pt_cmpR op_eq (pe_ix ix_list (pv 0) pe_int (fun _ _ => rfl)) pe_int (nomark _))
        (pss_cons
          (ps_set (i := 2) sc_law_take.nd rfl (Or.inl rfl) (pe_ix ix_list (pe_op op_cat (pe_slice sl_list (pe_ix ix_list (pv 0) pe_int (fun _ _ => rfl)) (po_some (pe_ix ix_list (pv 0) pe_int (fun _ _ => rfl))) po_none) (pe_lst (pa_cons pe_int pa_nil))) pe_int (fun _ _ => rfl)))
          (pss_cons
          (ps_augS (pv 0) pe_int get_list pe_int ip_add set_list)
          (Evl.pss_cut
          (ps_if (pt_cmpR op_ge (pv 2) (pe_op op_pow pe_int pe_int) (nomark _))
          (pss_one
            (ps_asg (pv 2) (pg_sub (pv 0) pe_int set_list)))
          pss_nil)
          (pss_cons
          (ps_set (i := 3) sc_law_take.nd rfl (Or.inl rfl) (pe_op op_add (pe_op op_add (pe_op op_mul (pe_ix ix_list (pv 0) pe_int (fun _ _ => rfl)) pe_int) (pe_op op_mod (pe_callTy call_int1 (by rfl) T.z_int (by decide +kernel) (pa_cons (pv 2) pa_nil)) pe_int)) (pe_op op_mul pe_int (pe_ix ix_list (pv 0) pe_int (fun _ _ => rfl)))))
          (pss_one
          (ps_asg (pe_op op_mod (pe_callTy call_int1 (by rfl) T.z_int (by decide +kernel) (pa_cons (pv 3) pa_nil)) pe_int) (pg_sub (pv 0) pe_int set_list)))))))
        pss_nil)
        (pss_cons
        (ps_if (pt_cmpR op_gt (pe_ix ix_list (pv 0) pe_int (fun _ _ => rfl)) pe_int (nomark _))
        (pss_cons
          (ps_set (i := 4) sc_law_take.nd rfl (Or.inl rfl) (pe_op op_mod (pe_callTy call_int1 (by rfl) T.z_int (by decide +kernel) (pa_cons (pe_ix ix_list (pv 0) pe_int (fun _ _ => rfl)) pa_nil)) (pv 1)))
          (pss_cons
          (ps_asg (pe_op op_fdiv (pe_callTy call_int1 (by rfl) T.z_int (by decide +kernel) (pa_cons (pe_ix ix_list (pv 0) pe_int (fun _ _ => rfl)) pa_nil)) (pv 1)) (pg_sub (pv 0) pe_int set_list))
          (pss_one
          (ps_ret (pv 4)))))
        pss_nil)
        (pss_cons
        (ps_set (i := 5) sc_law_take.nd rfl (Or.inl rfl) (pe_op op_mod (pe_callTy call_int1 (by rfl) T.z_int (by decide +kernel) (pa_cons (pe_op op_mul (pe_op op_add (pe_ix ix_list (pv 0) pe_int (fun _ _ => rfl)) pe_int) pe_int) pa_nil)) pe_int))
        (pss_cons
        (ps_set (i := 6) sc_law_take.nd rfl (Or.inl rfl) (pe_op op_mod (pe_callTy call_int1 (by rfl) T.z_int (by decide +kernel) (pa_cons (pe_op op_mul (pe_op op_mod (pe_callTy call_int1 (by rfl) T.z_int (by decide +kernel) (pa_cons (pe_op op_mul (pv 5) (pv 5)) pa_nil)) pe_int) pe_int) pa_nil)) pe_int))
        (pss_one
        (ps_ret (pe_op op_mod (pe_callTy call_int1 (by rfl) T.z_int (by decide +kernel) (pa_cons (pe_op op_fdiv (pv 6) pe_int) pa_nil)) (pv 1)))))))), ?_⟩
    refine ⟨fun σ' H' => ∃ y2 y3, σ' = [some (.ref b), some (.int (n : Int)), y2, y3, none, none, none] ∧ But b G H' ∧ BagAt K H' b c, ?_, ?_⟩
    ·
      refine ⟨_, rfl, b, _, 0, _, rfl, rfl, .inl (.inl hb), atI_nat (j := 0) rfl, rfl, _, rfl, ite2 (fun _ => ?_) (fun _ => ?_)⟩
      ·
        refine ⟨_, rfl, b, _, 3, _, rfl, rfl, .inl (.inl hb), atI_nat (j := 3) rfl, _, rfl, b, _, 2, _, rfl, rfl, .inl (.inl hb), atI_nat (j := 2) rfl, z, rfl, c, _, rfl, hc, fun p np => ?_⟩
        have s1 := same_new (o := .lst (cutV (cs.map V.int) (some z) none)) np
        obtain ⟨ds, eds, ds0, dsl⟩ := cut_ints cs (some z) none cs0
        refine ⟨by show 1 ≤ sizeLine; decide, fun q nq => ?_⟩
        have s2 := s1.trans (same_new (o := .lst [V.int 0]) nq)
        refine ⟨p, q, _, _, rfl, rfl, same_new nq _ _ upd_same, upd_same, ?_, fun t nt => ?_⟩
        · rw [eds, List.length_map]
          show ds.length + 1 ≤ sizeLine
          exact Nat.le_trans (show ds.length + 1 ≤ 100 by omega) (by decide)
        have s3 := s2.trans (same_new (o := .lst (cutV (cs.map V.int) (some z) none ++ [V.int 0])) nt)
        obtain ⟨e0, ee0, e00⟩ : ∃ e0 : Int, (cutV (cs.map V.int) (some z) none ++ [V.int 0])[0]? = some (.int e0) ∧ 0 ≤ e0 := by
          rw [eds]
          cases ds with
          | nil => exact ⟨0, rfl, Int.le_refl _⟩
          | cons d0 dr => exact ⟨d0, rfl, ds0 d0 List.mem_cons_self⟩
        refine ⟨t, _, 0, _, rfl, rfl, .inl (.inl upd_same), atI_nat (j := 0) ee0, ?_⟩
        have hb3 := s3 _ _ hb
        refine ⟨_, rfl, b, _, 2, _, rfl, rfl, .inl (.inl hb3), rfl, _, _, rfl, rfl, b, _, 2, 2, rfl, rfl, hb3, rfl, ?_⟩
        refine ⟨fun σ' H' => ∃ x', σ' = [some (.ref b), some (.int (n : Int)), some (.int e0), none, none, none, none] ∧ But b G H' ∧ H' b = some (.lst [.int x', .int y, .int (z + 1), .ref c]) ∧ SqL K H' c (cs.map V.int) ∧ 0 ≤ x', ?_, ?_⟩
        · refine ⟨_, rfl, _, _, rfl, rfl, ⟨by decide, by decide, by decide⟩, _, _, rfl, rfl, _, rfl, ite2 (fun _ => ?_) (fun _ => ?_)⟩
          · refine ⟨_, rfl, _, rfl, b, _, 0, 0, rfl, rfl, upd_same, rfl, ?_⟩
            refine ⟨e0, rfl, ((But.same s3).trans But.at_).trans But.at_, upd_same, sqL_but nbc.symm But.at_ (sqL_but nbc.symm But.at_ (s3.seq hc)), e00⟩
          · exact ⟨x, rfl, (But.same s3).trans But.at_, upd_same, sqL_but nbc.symm But.at_ (s3.seq hc), x0⟩
        · rintro σ' H' ⟨x', rfl, s4, hb4, hc4, x0'⟩
          refine ⟨_, rfl, b, _, 1, _, rfl, rfl, .inl (.inl hb4), atI_nat (j := 1) rfl, _, _, rfl, rfl, .inr ⟨by decide, by decide⟩, _, rfl, .inl ⟨_, rfl, _, _, rfl, rfl, (by show (0 : Int) < 2147483647; decide), _, _, rfl, rfl,
            _, rfl, b, _, 2, _, rfl, rfl, .inl (.inl hb4), atI_nat (j := 2) rfl, _, _, rfl, rfl, .inl ⟨by decide, by decide⟩, _, _, rfl, rfl, ?_⟩⟩
          refine ⟨_, rfl, .inl ⟨_, rfl, _, _, rfl, rfl, (by show (0 : Int) < 2147483647; decide), _, rfl, b, _, 1, 1, rfl, rfl, hb4, rfl, ?_⟩⟩
          refine ⟨_, _, rfl, s4.trans But.at_, x', _, z + 1, cs, upd_same, sqL_but nbc.symm But.at_ hc4, nbc, x0', Int.emod_nonneg _ (by decide), Int.emod_lt_of_pos _ (by decide), by omega, cs0, cl⟩
      · exact ⟨_, _, rfl, But.refl _ _, x, y, z, cs, hb, hc, nbc, x0, y0, y1, z0, cs0, cl⟩
    · rintro σ' H' ⟨y2, y3, rfl, s1, x, y, z, cs, hb, hc, nbc, x0, y0, y1, z0, cs0, cl⟩
      refine ⟨_, rfl, b, _, 0, _, rfl, rfl, .inl (.inl hb), atI_nat (j := 0) rfl, _, _, rfl, rfl, _, rfl, ite2 (fun _ => ?_) (fun _ => ?_)⟩
      ·
        refine ⟨_, rfl, b, _, 0, _, rfl, rfl, .inl (.inl hb), atI_nat (j := 0) rfl, .inl ⟨_, rfl, _, rfl, _, _, rfl, rfl, by omega, ?_⟩⟩
        refine ⟨_, rfl, b, _, 0, _, rfl, rfl, .inl (.inl hb), atI_nat (j := 0) rfl, .inl ⟨_, rfl, _, rfl, _, _, rfl, rfl, ⟨by omega, by omega⟩, _, rfl, b, _, 0, 0, rfl, rfl, hb, rfl, ?_⟩⟩
        obtain ⟨r, er⟩ : ∃ r : Nat, x % (n : Int) = (r : Int) := ⟨(x % (n : Int)).toNat, (Int.toNat_of_nonneg (Int.emod_nonneg _ (by omega))).symm⟩
        refine ⟨_, rfl, ?_⟩
        show R (V.int (x % (n : Int))) _
        rw [er]
        refine k _ r (s1.trans But.at_) ⟨_, y, z, cs, upd_same, sqL_but nbc.symm But.at_ hc, nbc, Int.ediv_nonneg x0 (by omega), y0, y1, z0, cs0, cl⟩ ?_
        have := Int.emod_lt_of_pos x (b := (n : Int)) (by omega)
        omega
      ·
        have t1 : ∀ a : Int, (0 : Int) ≤ a % 1000000007 ∧ a % 1000000007 < 1000000007 := fun a => ⟨Int.emod_nonneg _ (by decide), Int.emod_lt_of_pos _ (by decide)⟩
        have t2 : ∀ a : Int, (0 : Int) ≤ a % 998244353 ∧ a % 998244353 < 998244353 := fun a => ⟨Int.emod_nonneg _ (by decide), Int.emod_lt_of_pos _ (by decide)⟩
        refine ⟨_, rfl, b, _, 1, _, rfl, rfl, .inl (.inl hb), atI_nat (j := 1) rfl, _, _, rfl, rfl, _, _, rfl, rfl, .inr ⟨by decide, by decide⟩, .inl ⟨_, rfl, _, _, rfl, rfl, (by show (0 : Int) < 1000000007; decide), ?_⟩⟩
        refine ⟨_, rfl, _, rfl, _, _, rfl, rfl, .inl ⟨by have := t1 ((y + 1) * 39373); omega, by have := t1 ((y + 1) * 39373); omega⟩, .inl ⟨_, rfl, _, _, rfl, rfl, (by show (0 : Int) < 998244353; decide), _, _, rfl, rfl, .inr ⟨by decide, by decide⟩, .inl ⟨_, rfl, _, _, rfl, rfl, (by show (0 : Int) < 998244353; decide), ?_⟩⟩⟩
        refine ⟨_, rfl, _, _, rfl, rfl, ⟨by decide, by decide⟩, .inl ⟨_, rfl, _, rfl, _, _, rfl, rfl, by omega, ?_⟩⟩
        show R (V.int (_ % (n : Int))) _
        generalize (_ : Int) / 7 = q
        obtain ⟨r, er⟩ : ∃ r : Nat, q % (n : Int) = (r : Int) := ⟨(q % (n : Int)).toNat, (Int.toNat_of_nonneg (Int.emod_nonneg _ (by omega))).symm⟩
        rw [er]
        refine k _ r s1 ⟨x, y, z, cs, hb, hc, nbc, x0, y0, y1, z0, cs0, cl⟩ ?_
        have := Int.emod_lt_of_pos q (b := (n : Int)) (by omega)
        omega
end
end Es
set_option Elab.async false
set_option linter.all false
set_option maxRecDepth 100000
set_option maxHeartbeats 4000000
namespace Es
open PySem PySem.Spec PyProof.Rows L2
section
variable {P : Program} {w : World} {K : PySem.W.Frag} {mg : Str → Option Value} {base : Heap}
theorem ok_law_some {f : Addr} {fd : FuncData} (F : Fun K "_law_some" "_law_some" s_law_some f fd) (T : Txt mg) (c_law_take : CalleeOf P w K mg base 1 "_law_take" ["bag", "many"] (sp_law_take K)) : FnG P w K mg base 2 f fd ["bag", "things"] (sp_law_some K) := by
  refine okG F sc_law_some (fun h => ?_) (fun cdv B out t0 G ys R E hr hg h => ?_)
  · obtain ⟨b, c, l, xs, rfl, _⟩ := h
    rfl
  · obtain ⟨b, c, l, xs, rfl, hB, nlb, hl, h0, h1, k⟩ := h
    refine ⟨_, (pss_one
        (ps_ret (pe_ix ix_seq (pv 1) (pe_callC c_law_take (hr.mono (by decide)) hg (by rfl) (pa_cons (pv 0) (pa_cons (pe_callB call_len_seq (by rfl) T.z_len (by decide +kernel) (pa_cons (pv 1) pa_nil)) pa_nil))) (fun _ _ => rfl)))), ?_⟩
    refine ⟨_, rfl, _, rfl, _, rfl, l, xs, rfl, hl, b, c, xs.length, rfl, hB, h0, h1, fun H1 r s1 B1 hr1 => ?_⟩
    have e : xs[r]? = some xs[r] := List.getElem?_eq_getElem hr1
    have q := k H1 r xs[r] s1 B1 e
    rcases hl with hl | hl
    · exact .inl ⟨l, xs, r, xs[r], rfl, rfl, sqL_but nlb s1 hl, atI_nat e, q⟩
    · exact .inr (.inl ⟨l, xs, r, xs[r], rfl, rfl, sqT_bag hB s1 hl, atI_nat e, q⟩)
end
end Es
set_option Elab.async false
set_option linter.all false
set_option maxRecDepth 100000
set_option maxHeartbeats 4000000
namespace Es
open PySem PySem.Spec PyProof.Rows L2
section
variable {P : Program} {w : World} {K : PySem.W.Frag} {mg : Str → Option Value} {base : Heap}
theorem ok_law_row {f : Addr} {fd : FuncData} (F : Fun K "_law_row" "_law_row" s_law_row f fd) (T : Txt mg)  : FnG P w K mg base 1 f fd ["mask"] (sp_law_row K) := by
  refine okG F sc_law_row (fun h => ?_) (fun cdv B out t0 G ys R E hr hg h => ?_)
  · obtain ⟨m, rfl, _⟩ := h
    rfl
  · obtain ⟨m, rfl, hm, k⟩ := h
    refine ⟨_, (pss_one
        (ps_ret (pe_callTy call_tuple_of (by rfl) T.z_tuple (by decide +kernel) (pa_cons (pe_lc (own := [("unknown", 1)]) rfl sc_law_row.nd (pi_range1 (by rfl) T.z_range (pa_cons (pe_bits (pv 0)) pa_nil)) (blkOk_by (own := [("unknown", 1)]) (N := ["mask", "unknown"]) (sc := defScope s_law_row) (by decide +kernel)) (fun _ _ _ _ _ => (pg_name (i := 1) sc_law_row.nd rfl (.inl rfl))) (fun _ _ _ _ _ => (pts_one (pt_cmpR op_eq (pe_op op_and (pe_op op_shr (pv 0) (pv 1)) pe_int) pe_int (nomark _)))) (fun _ _ _ _ _ => (pv 1))) pa_nil)))), ?_⟩
    have hb : Builtin.Int.intBits (m : Int) ≤ 63 := intBits_le (by omega)
    refine ⟨_, rfl, _, rfl, _, rfl, by omega, by omega, fun D hD => ?_⟩
    refine lc_range (lo := 0) (n := Builtin.Int.intBits (m : Int)) (fun i H => ∃ acc : List Nat, H D = some (.lst (iv acc)) ∧ Same G H ∧ acc.length ≤ i ∧ acc = (List.range i).filter fun j => m.testBit j)
      ⟨[], upd_same, same_new hD, Nat.le_refl _, rfl⟩ ?_ ?_
    · rintro i H hi ⟨acc, ea, sa, la, eacc⟩
      have e0 : (0 : Int) + (i : Int) = (i : Int) := Int.zero_add _
      rw [e0]
      refine ⟨rfl, _, rfl, _, rfl, _, _, rfl, rfl, Int.natCast_nonneg _, _, _, rfl, rfl, rfl, _, rfl, ?_⟩
      have nx : (List.range (i + 1)).filter (fun j => m.testBit j) = acc ++ (if m.testBit i = true then [i] else []) := by
        rw [List.range_succ, List.filter_append, ← eacc]
        congr 1
        cases q : m.testBit i <;> simp [q]
      have sa1 := shr_and m i
      refine ite2 (fun hc => ?_) (fun hc => ?_)
      · have q : m.testBit i = true := by
          cases q : m.testBit i with
          | true => rfl
          | false =>
            rw [q, if_neg Bool.false_ne_true] at sa1
            have z := V.int.inj (of_decide_eq_true hc)
            rw [sa1] at z
            cases z
        refine ⟨_, rfl, iv acc, ea, ?_, acc ++ [i], ?_, same_mut sa hD, by simp; omega, ?_⟩
        · rw [iv_len]
          exact small1000 (by omega)
        · rw [upd_same]
          simp [iv]
        · rw [nx, q, if_pos rfl]
      · have q : m.testBit i = false := by
          cases q : m.testBit i with
          | false => rfl
          | true =>
            rw [q, if_pos rfl] at sa1
            exact absurd (decide_eq_true (congrArg V.int sa1)) hc
        exact ⟨acc, ea, sa, by omega, by rw [nx, q, if_neg Bool.false_ne_true, List.append_nil]⟩
    · rintro H ⟨acc, ea, sa, la, eacc⟩
      have e : acc = bts m := by
        refine bts_of (eacc ▸ List.Pairwise.filter _ List.pairwise_lt_range) fun u => ?_
        rw [eacc, List.mem_filter, List.mem_range]
        constructor
        · rintro ⟨h1, h2⟩
          exact ⟨by omega, h2⟩
        · rintro ⟨h1, h2⟩
          refine ⟨?_, h2⟩
          refine Nat.lt_of_not_le fun z => ?_
          have : m < 2 ^ u := by
            refine Nat.lt_of_lt_of_le ?_ (Nat.pow_le_pow_right (by decide) z)
            exact lt_bits m
          rw [Nat.testBit_lt_two_pow this] at h2
          cases h2
      refine ⟨D, _, rfl, .inl ⟨.inl (.inl ea), fun p np => ?_⟩⟩
      rw [e]
      exact k _ p (sa.trans (same_new np)) (sa.free np) upd_same
end
end Es
set_option Elab.async false
set_option linter.all false
set_option maxRecDepth 100000
set_option maxHeartbeats 4000000
namespace Es
open PySem PySem.Spec PyProof.Rows L2
section
variable {P : Program} {w : World} {K : PySem.W.Frag} {mg : Str → Option Value} {base : Heap}
theorem ok_law_any_row {f : Addr} {fd : FuncData} (F : Fun K "_law_any_row" "_law_any_row" s_law_any_row f fd) (T : Txt mg) (c_law_some : CalleeOf P w K mg base 2 "_law_some" ["bag", "things"] (sp_law_some K)) (c_law_take : CalleeOf P w K mg base 1 "_law_take" ["bag", "many"] (sp_law_take K)) (c_law_row : CalleeOf P w K mg base 1 "_law_row" ["mask"] (sp_law_row K)) : FnG P w K mg base 3 f fd ["bag", "many"] (sp_law_any_row K) := by
  refine okG F sc_law_any_row (fun h => ?_) (fun cdv B out t0 G ys R E hr hg h => ?_)
  · obtain ⟨b, c, n, rfl, _⟩ := h
    rfl
  · obtain ⟨b, c, n, rfl, hB, n0, n62, k⟩ := h
    refine ⟨_, (pss_cons
        (ps_set (i := 2) sc_law_any_row.nd rfl (Or.inl rfl) pe_int)
        (pss_cons
        (ps_for PassesOwn.never rfl (pi_range1 (by rfl) T.z_range (pa_cons (pe_callC c_law_some (hr.mono (by decide)) hg (by rfl) (pa_cons (pv 0) (pa_cons (pe_lst (pa_cons pe_int (pa_cons pe_int (pa_cons pe_int (pa_cons pe_int (pa_cons (pv 1) pa_nil)))))) pa_nil))) pa_nil)) (pg_name (i := 3) sc_law_any_row.nd rfl (.inl rfl))
        (pss_one
          (ps_set (i := 2) sc_law_any_row.nd rfl (Or.inl rfl) (pe_op op_xor (pv 2) (pe_op op_shl pe_int (pe_callC c_law_take (hr.mono (by decide)) hg (by rfl) (pa_cons (pv 0) (pa_cons (pv 1) pa_nil))))))))
        (pss_one
        (ps_ret (pe_ifExp (pt_cmpR op_gt (pv 2) pe_int (nomark _)) (pe_callC c_law_row (hr.mono (by decide)) hg (by rfl) (pa_cons (pv 2) pa_nil)) (pe_tup (pa_cons (pe_callC c_law_take (hr.mono (by decide)) hg (by rfl) (pa_cons (pv 0) (pa_cons (pv 1) pa_nil))) pa_nil))))))), ?_⟩
    have p63 : 2 ^ n < 2 ^ 63 := Nat.pow_lt_pow_right (by decide) (by omega)
    obtain ⟨ys0, eb0⟩ := hB.lst
    refine ⟨_, rfl, _, rfl, (by show 5 ≤ sizeLine; decide), fun l nl => ?_⟩
    have sl := same_new (o := .lst [V.int 1, V.int 2, V.int 2, V.int 3, V.int (n : Int)]) nl
    refine ⟨b, c, l, _, rfl, hB.same sl, (ne_of_none eb0 nl).symm, .inl (.inl (.inl upd_same)), by show 0 < 5; decide, by show 5 < 1073741824; decide, fun H1 r v s1 B1 hv => ?_⟩
    obtain ⟨j, rfl, j0, j1⟩ : ∃ j : Int, v = .int j ∧ 0 ≤ j ∧ j ≤ 62 := by
      rcases r with _ | _ | _ | _ | _ | r
      · exact ⟨1, (Option.some.inj hv).symm, by decide, by decide⟩
      · exact ⟨2, (Option.some.inj hv).symm, by decide, by decide⟩
      · exact ⟨2, (Option.some.inj hv).symm, by decide, by decide⟩
      · exact ⟨3, (Option.some.inj hv).symm, by decide, by decide⟩
      · exact ⟨n, (Option.some.inj hv).symm, by omega, by omega⟩
      · simp at hv
    have sG := (But.same (b := b) sl).trans s1
    refine ⟨j, rfl, by omega, by omega, for_range (lo := 0) (n := j.toNat) (fun i σ H => ∃ m y3, σ = [some (.ref b), some (.int (n : Int)), some (.int ((m : Nat) : Int)), y3] ∧ But b G H ∧ BagAt K H b c ∧ m < 2 ^ n)
      ⟨0, none, rfl, sG, B1, Nat.two_pow_pos n⟩ ?_ ?_⟩
    · rintro i σ H hi ⟨m, y3, rfl, s2, B2, hm⟩
      refine ⟨_, rfl, _, rfl, _, rfl, b, c, n, rfl, B2, n0, by omega, fun H2 r2 s3 B3 h3 => ?_⟩
      refine ⟨_, _, rfl, rfl, ⟨by omega, by omega, by decide⟩, _, _, rfl, rfl, ?_⟩
      refine ⟨m ^^^ 2 ^ r2, some (V.int (0 + (i : Int))), ?_, s2.trans s3, B3, Nat.xor_lt_two_pow hm (Nat.pow_lt_pow_right (by decide) h3)⟩
      show [some (V.ref b), some (V.int (n : Int)), some (V.int (Builtin.bitXor (m : Int) (1 * 2 ^ ((r2 : Int).toNat)))), _] = _
      rw [shl_one, xor_nat]
    · rintro σ H ⟨m, y3, rfl, s2, B2, hm⟩
      refine ⟨_, rfl, _, _, rfl, rfl, _, rfl, ite2 (fun hc => ?_) (fun hc => ?_)⟩
      · have hc := of_decide_eq_true hc
        refine ⟨_, rfl, m, rfl, Nat.lt_trans hm p63, fun H2 p s3 np ep => ?_⟩
        exact k _ _ m (s2.trans (But.same s3)) (B2.same s3) ⟨p, rfl, .inl (.inl ep)⟩ hm (by omega)
      · refine ⟨_, rfl, _, rfl, b, c, n, rfl, B2, n0, by omega, fun H2 r2 s3 B3 h3 => ?_⟩
        refine ⟨(by show 1 ≤ sizeLine; decide), fun t nt => ?_⟩
        have st := same_new (o := .tup [V.int (r2 : Int)]) nt
        refine k _ _ (2 ^ r2) ((s2.trans s3).trans (But.same st)) (B3.same st) ⟨t, rfl, .inl (.inl ?_)⟩ (Nat.pow_lt_pow_right (by decide) h3) (Nat.ne_of_gt (Nat.two_pow_pos _))
        rw [bts_pow (by omega)]
        exact upd_same
end
end Es
set_option Elab.async false
set_option linter.all false
set_option maxRecDepth 100000
set_option maxHeartbeats 4000000
namespace Es
open PySem PySem.Spec PyProof.Rows L2
section
variable {P : Program} {w : World} {K : PySem.W.Frag} {mg : Str → Option Value} {base : Heap}
theorem ok_law_any_tree {f : Addr} {fd : FuncData} (F : Fun K "_law_any_tree" "_law_any_tree" s_law_any_tree f fd) (T : Txt mg) {d : Nat} (c_law_take : CalleeOf P w K mg base 1 "_law_take" ["bag", "many"] (sp_law_take K)) (c_law_any_tree : CalleeOf P w K mg base (3 + d) "_law_any_tree" ["bag", "many", "clauses", "deep"] (sp_law_any_tree K d)) (c_law_any_row : CalleeOf P w K mg base 3 "_law_any_row" ["bag", "many"] (sp_law_any_row K)) : FnG P w K mg base (3 + d + 1) f fd ["bag", "many", "clauses", "deep"] (sp_law_any_tree K (d + 1)) := by
  refine okG F sc_law_any_tree (fun h => ?_) (fun cdv B out t0 G ys R E hr hg h => ?_)
  · obtain ⟨b, c, n, k, e, rfl, _⟩ := h
    rfl
  · obtain ⟨b, c, n, k, e, rfl, hB, n0, n62, k0, k30, ed, kk⟩ := h
    refine ⟨_, (pss_cons
        (ps_if (PW.pt (pw_or (pt_cmpR op_eq (pv 3) pe_int (nomark _)) (pw_or (pt_cmpR op_eq (pe_callC c_law_take (hr.mono (by omega)) hg (by rfl) (pa_cons (pv 0) (pa_cons pe_int pa_nil))) pe_int (nomark _)) (pw_or1 (pt_cmpR op_eq (pv 1) pe_int (nomark _))))))
        (pss_one
          (ps_ret (pe_tup (pa_cons pe_str (pa_cons (pe_callC c_law_take (hr.mono (by omega)) hg (by rfl) (pa_cons (pv 0) (pa_cons (pv 2) pa_nil))) pa_nil)))))
        pss_nil)
        (pss_cons
        (ps_par (i := 4) (j := 5) rfl sc_law_any_tree.nd rfl rfl (by decide) rfl rfl (pa_cons (pe_callC c_law_any_row (hr.mono (by omega)) hg (by rfl) (pa_cons (pv 0) (pa_cons (pv 1) pa_nil))) (pa_cons (pe_callC c_law_any_tree (hr.mono (by omega)) hg (by rfl) (pa_cons (pv 0) (pa_cons (pv 1) (pa_cons (pv 2) (pa_cons (pe_op op_sub (pv 3) pe_int) pa_nil))))) pa_nil)) (by rfl))
        (pss_one
        (ps_ret (pe_tup (pa_cons pe_str (pa_cons (pv 4) (pa_cons (pv 5) (pa_cons (pe_callC c_law_any_tree (hr.mono (by omega)) hg (by rfl) (pa_cons (pv 0) (pa_cons (pv 1) (pa_cons (pv 2) (pa_cons (pe_op op_sub (pv 3) pe_int) pa_nil))))) pa_nil))))))))), ?_⟩
    have leafAt : ∀ (H2 : Hp) (r : Nat) (p : Addr), But b G H2 → BagAt K H2 b c → r < k → H2 p = none → R (.ref p) (upd H2 p (.tup [endV, V.int (r : Int)])) := fun H2 r p s B hr np => by
      have sq := same_new (o := .tup [endV, V.int (r : Int)]) np
      exact kk _ _ (.leaf r) (s.trans (But.same sq)) (B.same sq) ⟨p, rfl, .inl (.inl upd_same)⟩ (Nat.lt_trans hr k30) (Nat.zero_le _) (Nat.one_le_two_pow)
    refine ⟨_, rfl, rfl, _, rfl, ite2 (fun c1 => ?_) (fun c1 => ?_)⟩
    · exact iteT ⟨_, rfl, _, rfl, b, c, k, rfl, hB, k0, by omega, fun H2 r s2 B2 hr => ⟨(by show 2 ≤ sizeLine; decide), fun p np => leafAt H2 r p s2 B2 hr np⟩⟩
    obtain ⟨e, rfl⟩ : ∃ e', e = e' + 1 := by
      refine ⟨e - 1, ?_⟩
      have : e ≠ 0 := fun z => c1 (decide_eq_true (by rw [z]; rfl))
      omega
    refine ⟨_, rfl, b, c, 4, rfl, hB, by decide, by decide, fun H1 r1 s1 B1 hr1 => ⟨rfl, _, rfl, ite2 (fun c2 => ?_) (fun c2 => ?_)⟩⟩
    · exact iteT ⟨_, rfl, _, rfl, b, c, k, rfl, B1, k0, by omega, fun H2 r s2 B2 hr => ⟨(by show 2 ≤ sizeLine; decide), fun p np => leafAt H2 r p (s1.trans s2) B2 hr np⟩⟩
    refine ⟨_, rfl, rfl, _, rfl, ite2 (fun c3 => ?_) (fun c3 => ?_)⟩
    · have c3 := V.int.inj (of_decide_eq_true c3)
      omega
    have ee : ((e + 1 : Nat) : Int) - 1 = (e : Int) := by omega
    refine ⟨_, rfl, _, rfl, b, c, n, rfl, B1, n0, n62, fun H2 u m s2 B2 hu hm m0 => ?_⟩
    refine ⟨_, rfl, _, rfl, _, rfl, _, rfl, _, _, rfl, rfl, b, c, n, k, e, by show [V.ref b, V.int (n : Int), V.int (k : Int), V.int (((e + 1 : Nat) : Int) - 1)] = _; rw [ee], B2, n0, n62, k0, k30, by omega, fun H3 v0 t0' s3 B3 h0 o0 ht0 sz0 => ⟨_, _, rfl, ?_⟩⟩
    refine ⟨_, rfl, _, rfl, _, rfl, _, rfl, _, rfl, _, rfl, _, _, rfl, rfl, b, c, n, k, e, by show [V.ref b, V.int (n : Int), V.int (k : Int), V.int (((e + 1 : Nat) : Int) - 1)] = _; rw [ee], B3, n0, n62, k0, k30, by omega, fun H4 v1 t1 s4 B4 h1 o1 ht1 sz1 => ?_⟩
    refine ⟨(by show 4 ≤ sizeLine; decide), fun p np => ?_⟩
    have sq := same_new (o := .tup [askV, u, v0, v1]) np
    have hu4 : SumV K H4 u m := by
      obtain ⟨y2, e2⟩ := B2.lst
      obtain ⟨y3, e3⟩ := B3.lst
      exact SumV.but e3 s4 (SumV.but e2 s3 hu)
    have h04 := h0.bag B3 s4
    refine kk _ _ (.ask m t0' t1) ((((s1.trans s2).trans s3).trans s4).trans (But.same sq)) (B4.same sq) ⟨p, u, v0, v1, rfl, .inl (.inl upd_same), hu4.same sq, h04.same sq, h1.same sq⟩ ⟨o0, o1⟩ ?_ ?_
    · show 1 + max t0'.ht t1.ht ≤ e + 1
      omega
    · show t0'.sz + t1.sz ≤ 2 ^ (e + 1)
      rw [Nat.pow_succ]
      omega
theorem rec_law_any_tree {f : Addr} {fd : FuncData} (F : Fun K "_law_any_tree" "_law_any_tree" s_law_any_tree f fd) (T : Txt mg) (c_law_take : CalleeOf P w K mg base 1 "_law_take" ["bag", "many"] (sp_law_take K)) (c_law_any_row : CalleeOf P w K mg base 3 "_law_any_row" ["bag", "many"] (sp_law_any_row K)) (hm : mg "_law_any_tree" = some (.ref f)) (hk : PySem.W.keepIn K (.ref f) = true) (hb : Binds K fd ["bag", "many", "clauses", "deep"] []) : ∀ d, FnG P w K mg base (3 + d) f fd ["bag", "many", "clauses", "deep"] (sp_law_any_tree K d) := by
  intro d
  induction d with
  | zero => exact ⟨fun h => (no_law_any_tree h).elim, fun _ _ _ _ _ h => (no_law_any_tree h).elim⟩
  | succ d ih => exact ok_law_any_tree F T c_law_take ⟨f, fd, ih, hm, hk, hb⟩ c_law_any_row
end
end Es
set_option Elab.async false
set_option linter.all false
set_option maxRecDepth 100000
set_option maxHeartbeats 4000000
namespace Es
open PySem PySem.Spec PyProof.Rows L2
section
variable {P : Program} {w : World} {K : PySem.W.Frag} {mg : Str → Option Value} {base : Heap}
theorem ok_law_mixed {f : Addr} {fd : FuncData} (F : Fun K "_law_mixed" "_law_mixed" s_law_mixed f fd) (T : Txt mg) (c_law_take : CalleeOf P w K mg base 1 "_law_take" ["bag", "many"] (sp_law_take K)) : FnG P w K mg base 2 f fd ["bag", "things"] (sp_law_mixed K) := by
  refine okG F sc_law_mixed (fun h => ?_) (fun cdv B out t0 G ys R E hr hg h => ?_)
  · obtain ⟨b, c, a, xs, rfl, _⟩ := h
    rfl
  · obtain ⟨b, c, a, xs, rfl, hB, ne, hS, hl, kk⟩ := h
    refine ⟨_, (pss_cons
        (ps_set (i := 2) sc_law_mixed.nd rfl (Or.inl rfl) (pe_lst pa_nil))
        (pss_cons
        (ps_for PassesOwn.never rfl (pi_or (pi_list (pv 1)) (pi_tup (pv 1))) (pg_name (i := 3) sc_law_mixed.nd rfl (.inl rfl))
        (pss_one
          (ps_expr (pe_bm PySem.F.plainAttrs_list PySem.F.slot_list_insert PySem.F.type_list_insert mt_insert (pv 2) (pa_cons (pe_callC c_law_take (hr.mono (by decide)) hg (by rfl) (pa_cons (pv 0) (pa_cons (pe_op op_add (pe_callB call_len_seq (by rfl) T.z_len (by decide +kernel) (pa_cons (pv 2) pa_nil)) pe_int) pa_nil))) (pa_cons (pv 3) pa_nil))))))
        (pss_one
        (ps_ret (pv 2))))), ?_⟩
    refine ⟨Nat.zero_le _, fun D nD => ?_⟩
    obtain ⟨yg, eg⟩ := hB.lst
    have nDb : D ≠ b := (ne_of_none eg nD).symm
    have sD := same_new (o := .lst []) nD
    let Pv : Nat → L2.St → Hp → Prop := fun i σ H => ∃ y3 ys, σ = [some (.ref b), some (.ref a), some (.ref D), y3] ∧ But b G H ∧ BagAt K H b c ∧ H D = some (.lst ys) ∧ ys.Perm (xs.take i)
    have st0 : Pv 0 [some (.ref b), some (.ref a), some (.ref D), none] (upd G D (.lst [])) := ⟨_, [], rfl, But.same sD, hB.same sD, upd_same, by rw [List.take_zero]⟩
    rcases hS with hS | hS
    · refine .inl ⟨_, rfl, a, rfl, ⟨xs, hS.imp (fun z => z.imp (fun z => (sD _ _ z)) (fun ⟨o, z⟩ => ⟨o, sD _ _ z⟩)) id⟩, for_list (K := K) (a := a) (xs := xs) Pv st0 (fun i σ H _ ⟨_, _, _, s, _⟩ => hS.imp (fun z => z.imp (fun z => s _ _ ne z) (fun ⟨o, z⟩ => ⟨o, s _ _ ne z⟩)) id) ?_ ?_⟩
      · rintro i x σ H hi ⟨y3, ys, rfl, s1, B1, eD, pm⟩
        have hil := (List.getElem?_eq_some_iff.mp hi).1
        have ly : ys.length = i := by
          rw [pm.length_eq, List.length_take]
          omega
        refine ⟨_, rfl, .inl ⟨rfl, _, .inl (.inl eD)⟩, _, rfl, _, rfl, D, ys, rfl, .inl (.inl (.inl eD)), _, _, rfl, rfl, b, c, ys.length + 1, rfl, B1, Nat.succ_pos _, by omega, fun H2 r s2 B2 hr => ?_⟩
        have eD2 := s2 _ _ nDb eD
        refine ⟨_, rfl, D, ys, (r : Int), x, rfl, rfl, eD2, small1000 (by omega), by omega, by omega, ?_⟩
        refine ⟨_, _, rfl, but_mut (s1.trans s2) nD, BagAt.mut hB nD B2, upd_same, ?_⟩
        rw [List.take_succ_eq_append_getElem hil, (List.getElem?_eq_some_iff.mp hi).2, List.append_assoc, Int.toNat_natCast]
        refine List.perm_middle.trans ?_
        show (x :: (ys.take r ++ ys.drop r)).Perm _
        rw [List.take_append_drop]
        exact (pm.cons x).trans (List.perm_append_singleton x _).symm
      · rintro σ H ⟨y3, ys, rfl, s1, B1, eD, pm⟩
        rw [List.take_length] at pm
        exact ⟨_, rfl, kk _ D ys s1 B1 nD nDb eD pm⟩
    · refine .inr ⟨_, rfl, a, rfl, ⟨xs, sqT_same sD hS⟩, for_tup (K := K) (a := a) (xs := xs) Pv st0 (fun i σ H _ ⟨_, _, _, s, _⟩ => hS.imp (fun z => z.imp (fun z => s _ _ ne z) (fun ⟨o, z⟩ => ⟨o, s _ _ ne z⟩)) id) ?_ ?_⟩
      · rintro i x σ H hi ⟨y3, ys, rfl, s1, B1, eD, pm⟩
        have hil := (List.getElem?_eq_some_iff.mp hi).1
        have ly : ys.length = i := by
          rw [pm.length_eq, List.length_take]
          omega
        refine ⟨_, rfl, .inl ⟨rfl, _, .inl (.inl eD)⟩, _, rfl, _, rfl, D, ys, rfl, .inl (.inl (.inl eD)), _, _, rfl, rfl, b, c, ys.length + 1, rfl, B1, Nat.succ_pos _, by omega, fun H2 r s2 B2 hr => ?_⟩
        have eD2 := s2 _ _ nDb eD
        refine ⟨_, rfl, D, ys, (r : Int), x, rfl, rfl, eD2, small1000 (by omega), by omega, by omega, ?_⟩
        refine ⟨_, _, rfl, but_mut (s1.trans s2) nD, BagAt.mut hB nD B2, upd_same, ?_⟩
        rw [List.take_succ_eq_append_getElem hil, (List.getElem?_eq_some_iff.mp hi).2, List.append_assoc, Int.toNat_natCast]
        refine List.perm_middle.trans ?_
        show (x :: (ys.take r ++ ys.drop r)).Perm _
        rw [List.take_append_drop]
        exact (pm.cons x).trans (List.perm_append_singleton x _).symm
      · rintro σ H ⟨y3, ys, rfl, s1, B1, eD, pm⟩
        rw [List.take_length] at pm
        exact ⟨_, rfl, kk _ D ys s1 B1 nD nDb eD pm⟩
end
end Es
set_option Elab.async false
set_option linter.all false
set_option maxRecDepth 100000
set_option maxHeartbeats 4000000
namespace Es
open PySem PySem.Spec PyProof.Rows L2
section
variable {P : Program} {w : World} {K : PySem.W.Frag} {mg : Str → Option Value} {base : Heap}
theorem ok_law_lopsided {f : Addr} {fd : FuncData} (F : Fun K "_law_lopsided" "_law_lopsided" s_law_lopsided f fd) (T : Txt mg) (c_law_take : CalleeOf P w K mg base 1 "_law_take" ["bag", "many"] (sp_law_take K)) (c_law_any_tree : CalleeOf P w K mg base 11 "_law_any_tree" ["bag", "many", "clauses", "deep"] (sp_law_any_treeD K)) (c_law_any_row : CalleeOf P w K mg base 3 "_law_any_row" ["bag", "many"] (sp_law_any_row K)) (c_law_mixed : CalleeOf P w K mg base 2 "_law_mixed" ["bag", "things"] (sp_law_mixed K)) : FnG P w K mg base 12 f fd ["bag", "many", "clauses", "deep"] (sp_law_lopsided K) := by
  refine okG F sc_law_lopsided (fun h => ?_) (fun cdv B out t0 G ys R E hr hg h => ?_)
  · obtain ⟨b, c, n, k, e, rfl, _⟩ := h
    rfl
  · obtain ⟨b, c, n, k, e, rfl, hB, n0, n62, k0, k30, e20, kk⟩ := h
    refine ⟨_, (pss_cons
        (ps_set (i := 4) sc_law_lopsided.nd rfl (Or.inl rfl) (pe_tup (pa_cons pe_str (pa_cons (pe_callC c_law_take (hr.mono (by decide)) hg (by rfl) (pa_cons (pv 0) (pa_cons (pv 2) pa_nil))) pa_nil))))
        (pss_cons
        (ps_for PassesOwn.never rfl (pi_range1 (by rfl) T.z_range (pa_cons (pv 3) pa_nil)) (pg_name (i := 5) sc_law_lopsided.nd rfl (.inl rfl))
        (pss_cons
          (ps_set (i := 6) sc_law_lopsided.nd rfl (Or.inl rfl) (pe_lst (pa_cons (pv 4) (pa_cons (pe_callC c_law_any_tree (hr.mono (by decide)) hg (by rfl) (pa_cons (pv 0) (pa_cons (pv 1) (pa_cons (pv 2) (pa_cons pe_int pa_nil))))) pa_nil))))
          (pss_one
          (ps_set (i := 4) sc_law_lopsided.nd rfl (Or.inl rfl) (pe_op op_catT (pe_tup (pa_cons pe_str (pa_cons (pe_callC c_law_any_row (hr.mono (by decide)) hg (by rfl) (pa_cons (pv 0) (pa_cons (pv 1) pa_nil))) pa_nil))) (pe_callTy call_tuple_of (by rfl) T.z_tuple (by decide +kernel) (pa_cons (pe_callC c_law_mixed (hr.mono (by decide)) hg (by rfl) (pa_cons (pv 0) (pa_cons (pv 6) pa_nil))) pa_nil)))))))
        (pss_one
        (ps_ret (pv 4))))), ?_⟩
    refine ⟨_, rfl, _, rfl, b, c, k, rfl, hB, k0, by omega, fun H1 r s1 B1 hr => ⟨(by show 2 ≤ sizeLine; decide), fun p np => ?_⟩⟩
    have sq := same_new (o := .tup [V.str (Str.ofString "end"), V.int (r : Int)]) np
    have h2 : TreeV K (upd H1 p (.tup [V.str (Str.ofString "end"), V.int (r : Int)])) (.ref p) (.leaf r) := ⟨p, rfl, .inl (.inl upd_same)⟩
    have B2 := B1.same sq
    have s2 := s1.trans (But.same (b := b) sq)
    generalize upd H1 p (.tup [V.str (Str.ofString "end"), V.int (r : Int)]) = H2 at h2 B2 s2 ⊢
    refine ⟨_, rfl, (e : Int), rfl, by omega, by omega, for_range (lo := 0) (n := e) (fun i σ H => ∃ w y5 y6 t, σ = [some (.ref b), some (.int (n : Int)), some (.int (k : Int)), some (.int (e : Int)), some w, y5, y6] ∧ But b G H ∧ BagAt K H b c ∧ TreeV K H w t ∧ t.ok ∧ t.ht ≤ i + 1 ∧ t.sz ≤ 2 * i + 1)
      ⟨_, _, _, .leaf r, rfl, s2, B2, h2, Nat.lt_trans hr k30, Nat.zero_le _, Nat.le_refl _⟩ ?_ ?_⟩
    · rintro i σ H hi ⟨w0, y5, y6, t0', rfl, s3, B3, h3, o3, ht3, sz3⟩
      refine ⟨_, rfl, _, rfl, _, rfl, _, rfl, b, c, n, k, 1, rfl, B3, n0, n62, k0, k30, by decide, fun H4 v1 t1 s4 B4 h4 o4 ht4 sz4 => ⟨(by show 2 ≤ sizeLine; decide), fun l nl => ?_⟩⟩
      have h34 := h3.bag B3 s4
      have sl := same_new (o := .lst [w0, v1]) nl
      have el := upd_same (H := H4) (a := l) (o := .lst [w0, v1])
      obtain ⟨y4, e4⟩ := B4.lst
      have nlb : l ≠ b := (ne_of_none e4 nl).symm
      have B5 := B4.same sl
      generalize upd H4 l (.lst [w0, v1]) = H5 at sl el B5 ⊢
      refine ⟨_, rfl, _, rfl, b, c, n, rfl, B5, n0, n62, fun H6 u m s6 B6 hu hm m0 => ⟨(by show 2 ≤ sizeLine; decide), fun q nq => ?_⟩⟩
      have rq := same_new (o := .tup [V.str (Str.ofString "ask"), u]) nq
      have eq7 := upd_same (H := H6) (a := q) (o := .tup [V.str (Str.ofString "ask"), u])
      have B7 := B6.same rq
      have el6 := s6 _ _ nlb el
      generalize upd H6 q (.tup [V.str (Str.ofString "ask"), u]) = H7 at rq eq7 B7 ⊢
      refine ⟨_, rfl, _, rfl, b, c, l, [w0, v1], rfl, B7, nlb, .inl (.inl (.inl (rq _ _ el6))), by show 2 ≤ 1000; decide, fun H8 p8 ys s8 B8 n8 nb8 e8 pm => ⟨p8, ys, rfl, .inl ⟨.inl (.inl e8), fun t9 nt9 => ?_⟩⟩⟩
      have r9 := same_new (o := .tup ys) nt9
      have et9 := upd_same (H := H8) (a := t9) (o := .tup ys)
      obtain ⟨y7, e7⟩ := B7.lst
      have eq8 : SqT K H8 q [V.str (Str.ofString "ask"), u] := sqT_but e7 s8 (.inl (.inl eq7))
      have hu8 := SumV.but e7 s8 (hu.same rq)
      obtain ⟨y5', e5⟩ := B5.lst
      have hw8 := TreeV.but e7 s8 ((TreeV.but e5 s6 (h34.same sl)).same rq)
      have hv8 := TreeV.but e7 s8 ((TreeV.but e5 s6 (h4.same sl)).same rq)
      have sAll := (((((s3.trans s4).trans (But.same (b := b) sl)).trans s6).trans (But.same (b := b) rq)).trans s8)
      generalize upd H8 t9 (.tup ys) = H9 at r9 et9 ⊢
      have ly : ys.length = 2 := pm.length_eq
      refine ⟨q, t9, [V.str (Str.ofString "ask"), u], ys, rfl, rfl, sqT_same r9 eq8, .inl (.inl et9), (by intro z; cases z), (by rw [ly]; show 2 + 2 ≤ sizeLine; decide), (fun z => by rw [z] at ly; cases ly), fun _ p10 np10 => ?_⟩
      have r10 := r9.trans (same_new (o := .tup ([V.str (Str.ofString "ask"), u] ++ ys)) np10)
      have out := sAll.trans (But.same (b := b) r10)
      rcases perm_two pm with rfl | rfl
      · exact ⟨_, _, _, .ask m t0' t1, rfl, out, B8.same r10, ⟨p10, u, w0, v1, rfl, .inl (.inl upd_same), hu8.same r10, hw8.same r10, hv8.same r10⟩, ⟨o3, o4⟩, by show 1 + max t0'.ht t1.ht ≤ i + 1 + 1; omega, by show t0'.sz + t1.sz ≤ 2 * (i + 1) + 1; omega⟩
      · exact ⟨_, _, _, .ask m t1 t0', rfl, out, B8.same r10, ⟨p10, u, v1, w0, rfl, .inl (.inl upd_same), hu8.same r10, hv8.same r10, hw8.same r10⟩, ⟨o4, o3⟩, by show 1 + max t1.ht t0'.ht ≤ i + 1 + 1; omega, by show t1.sz + t0'.sz ≤ 2 * (i + 1) + 1; omega⟩
    · rintro σ H ⟨w0, y5, y6, t0', rfl, s3, B3, h3, o3, ht3, sz3⟩
      exact ⟨_, rfl, kk _ w0 t0' s3 B3 h3 o3 ht3 sz3⟩
end
end Es
set_option Elab.async false
set_option linter.all false
set_option maxRecDepth 100000
set_option maxHeartbeats 4000000
namespace Es
open PySem PySem.Spec PyProof.Rows L2
section
variable {P : Program} {w : World} {K : PySem.W.Frag} {mg : Str → Option Value} {base : Heap}
theorem ok_law_tree_leaves {f : Addr} {fd : FuncData} (F : Fun K "_law_tree_leaves" "_law_tree_leaves" s_law_tree_leaves f fd) (T : Txt mg) {d : Nat} (c_law_tree_leaves : CalleeOf P w K mg base (1 + d) "_law_tree_leaves" ["tree", "lines"] (sp_law_tree_leaves K d)) : FnG P w K mg base (1 + d + 1) f fd ["tree", "lines"] (sp_law_tree_leaves K (d + 1)) := by
  refine okG F sc_law_tree_leaves (fun h => ?_) (fun cdv B out t0 G ys R E hr hg h => ?_)
  · obtain ⟨v, b, us, t, ls, rfl, _⟩ := h
    rfl
  · obtain ⟨v, b, us, t, ls, rfl, hv, hb, hP, hd, h40, s64, kk⟩ := h
    refine ⟨_, (pss_cons
        (ps_if (pt_cmpR op_eq (pe_ix ix_tup (pv 0) pe_int (fun _ _ => rfl)) pe_str (nomark _))
        (pss_one
          (ps_ret (pe_lst (pa_cons (pe_tup (pa_cons (pe_ix ix_tup (pv 0) pe_int (fun _ _ => rfl)) (pa_cons (pv 1) pa_nil))) pa_nil))))
        pss_nil)
        (pss_one
        (ps_ret (pe_op op_cat (pe_callC c_law_tree_leaves (hr.mono (by omega)) hg (by rfl) (pa_cons (pe_ix ix_tup (pv 0) pe_int (fun _ _ => rfl)) (pa_cons (pe_op op_catA (pv 1) (pe_tup (pa_cons (pe_tup (pa_cons (pe_ix ix_tup (pv 0) pe_int (fun _ _ => rfl)) (pa_cons pe_int pa_nil))) pa_nil))) pa_nil))) (pe_callC c_law_tree_leaves (hr.mono (by omega)) hg (by rfl) (pa_cons (pe_ix ix_tup (pv 0) pe_int (fun _ _ => rfl)) (pa_cons (pe_op op_catA (pv 1) (pe_tup (pa_cons (pe_tup (pa_cons (pe_ix ix_tup (pv 0) pe_int (fun _ _ => rfl)) (pa_cons pe_int pa_nil))) pa_nil))) pa_nil))))))), ?_⟩
    cases t with
    | leaf i =>
      obtain ⟨a, rfl, ha⟩ := hv
      refine ⟨_, rfl, a, _, 0, _, rfl, rfl, ha, atI_nat (j := 0) rfl, rfl, _, rfl, ite2 (fun _ => ?_) (fun z => absurd (decide_eq_true rfl) z)⟩
      refine ⟨_, rfl, a, _, 1, _, rfl, rfl, ha, atI_nat (j := 1) rfl, _, rfl, (by show 2 ≤ sizeLine; decide), fun p np => ?_⟩
      have s1 := same_new (o := .tup [V.int (i : Int), V.ref b]) np
      refine ⟨(by show 1 ≤ sizeLine; decide), fun q nq => ?_⟩
      have s2 := s1.trans (same_new (o := .lst [V.ref p]) nq)
      exact kk _ q [V.ref p] s2 (s1.free nq) upd_same (.cons ⟨p, b, us, rfl, .inl (.inl (same_new nq _ _ upd_same)), sqT_same s2 hb, lines_same s2 hP⟩ .nil)
    | ask m l r =>
      obtain ⟨a, w0, v0, v1, rfl, ha, hw, h0, h1⟩ := hv
      have hh : 1 + max l.ht r.ht < d + 1 := hd
      have h4 : ls.length + (1 + max l.ht r.ht) ≤ 40 := h40
      have l0 := Nat.le_max_left l.ht r.ht
      have l1 := Nat.le_max_right l.ht r.ht
      have z64 : l.sz + r.sz ≤ 64 := s64
      have lp := Paired.len hP
      refine ⟨_, rfl, a, _, 0, _, rfl, rfl, ha, atI_nat (j := 0) rfl, rfl, _, rfl, ite2 (fun z => absurd (V.str.inj (of_decide_eq_true z)) (by decide)) (fun _ => ?_)⟩
      refine ⟨_, rfl, a, _, 2, _, rfl, rfl, ha, atI_nat (j := 2) rfl, _, rfl, _, rfl, a, _, 1, _, rfl, rfl, ha, atI_nat (j := 1) rfl, (by show 2 ≤ sizeLine; decide), fun p1 np1 => ⟨(by show 1 ≤ sizeLine; decide), fun p2 np2 => ?_⟩⟩
      have s1 := same_new (o := .tup [w0, V.int 0]) np1
      have s2 := s1.trans (same_new (o := .tup [V.ref p1]) np2)
      have ep1 := same_new (o := .tup [V.ref p1]) np2 _ _ (upd_same (H := G) (a := p1) (o := .tup [w0, V.int 0]))
      refine cat_line (sqT_same s2 hb) (by omega) upd_same fun H3 q s3 hq => ?_
      have s13 := s2.trans s3
      refine ⟨v0, q, us ++ [V.ref p1], l, ls ++ [(m, 0)], rfl, h0.same s13, hq, PySem.Paired.snoc (lines_same s13 hP) ⟨p1, w0, rfl, .inl (.inl (s3 _ _ ep1)), hw.same s13⟩, by omega, by rw [List.length_append, List.length_singleton]; omega, by omega, fun H4 A es s4 nA eA PA => ?_⟩
      have s14 := s13.trans s4
      have ha4 := sqT_same s14 ha
      refine ⟨_, rfl, a, _, 3, _, rfl, rfl, ha4, atI_nat (j := 3) rfl, _, rfl, _, rfl, a, _, 1, _, rfl, rfl, ha4, atI_nat (j := 1) rfl, (by show 2 ≤ sizeLine; decide), fun p5 np5 => ⟨(by show 1 ≤ sizeLine; decide), fun p6 np6 => ?_⟩⟩
      have s5 := same_new (o := .tup [w0, V.int 1]) np5
      have s6 := s5.trans (same_new (o := .tup [V.ref p5]) np6)
      have ep5 := same_new (o := .tup [V.ref p5]) np6 _ _ (upd_same (H := H4) (a := p5) (o := .tup [w0, V.int 1]))
      refine cat_line (sqT_same (s14.trans s6) hb) (by omega) upd_same fun H7 q7 s7 hq7 => ?_
      have s57 := s6.trans s7
      have s17 := s14.trans s57
      refine ⟨v1, q7, us ++ [V.ref p5], r, ls ++ [(m, 1)], rfl, h1.same s17, hq7, PySem.Paired.snoc (lines_same s17 hP) ⟨p5, w0, rfl, .inl (.inl (s7 _ _ ep5)), hw.same s17⟩, by omega, by rw [List.length_append, List.length_singleton]; omega, by omega, fun H8 C fs s8 nC eC PC => ?_⟩
      have s58 := s57.trans s8
      have lA := Paired.len PA
      have lC := Paired.len PC
      rw [Tree.lvs_len] at lA lC
      refine ⟨A, C, es, fs, rfl, rfl, s58 _ _ eA, eC, Nat.le_trans (show es.length + fs.length ≤ 64 by omega) (by decide), fun P9 nP9 => ?_⟩
      have s9 := same_new (o := .lst (es ++ fs)) nP9
      have s19 := (s17.trans s8).trans s9
      refine kk _ P9 (es ++ fs) s19 ((s17.trans s8).free nP9) upd_same ?_
      rw [Tree.lvs]
      exact ent_append (Paired.mono2 (fun _ _ => EntV.same (s58.trans s9)) PA) (Paired.mono2 (fun _ _ => EntV.same s9) PC)
theorem rec_law_tree_leaves {f : Addr} {fd : FuncData} (F : Fun K "_law_tree_leaves" "_law_tree_leaves" s_law_tree_leaves f fd) (T : Txt mg)  (hm : mg "_law_tree_leaves" = some (.ref f)) (hk : PySem.W.keepIn K (.ref f) = true) (hb : Binds K fd ["tree", "lines"] []) : ∀ d, FnG P w K mg base (1 + d) f fd ["tree", "lines"] (sp_law_tree_leaves K d) := by
  intro d
  induction d with
  | zero => exact ⟨fun h => (no_law_tree_leaves h).elim, fun _ _ _ _ _ h => (no_law_tree_leaves h).elim⟩
  | succ d ih => exact ok_law_tree_leaves F T ⟨f, fd, ih, hm, hk, hb⟩
end
end Es
set_option Elab.async false
set_option linter.all false
set_option maxRecDepth 100000
set_option maxHeartbeats 4000000
namespace Es
open PySem PySem.Spec PyProof.Rows L2
section
variable {P : Program} {w : World} {K : PySem.W.Frag} {mg : Str → Option Value} {base : Heap}
theorem ok_leaves_of {f : Addr} {fd : FuncData} (F : Fun K "leaves_of" "leaves_of" s_leaves_of f fd) (T : Txt mg)  : FnG P w K mg base 1 f fd ["tree"] (sp_leaves_of K) := by
  refine okG F sc_leaves_of (fun h => ?_) (fun cdv B out t0 G ys R E hr hg h => ?_)
  · obtain ⟨v, t, rfl, _⟩ := h
    rfl
  · obtain ⟨v, t, rfl, hv, h25, s64, kk⟩ := h
    refine ⟨_, (pss_cons
        (ps_set (i := 1) sc_leaves_of.nd rfl (Or.inl rfl) (pe_lst pa_nil))
        (pss_cons
        (ps_set (i := 2) sc_leaves_of.nd rfl (Or.inl rfl) (pe_lst (pa_cons (pe_tup (pa_cons (pv 0) (pa_cons (pe_tup pa_nil) pa_nil))) pa_nil)))
        (pss_cons
        (ps_while PassesOwn.never (pt_truth (pv 2) (by intro _; rfl))
        (pss_cons
          (ps_asg (pe_bm0 PySem.F.plainAttrs_list PySem.F.slot_list_pop PySem.F.type_list_pop mt_pop (pv 2)) (pg_tup (by rfl) (pgs_cons (pg_name (i := 3) sc_leaves_of.nd rfl (.inl rfl)) (pgs_cons (pg_name (i := 4) sc_leaves_of.nd rfl (.inl rfl)) pgs_nil))))
          (pss_one
          (ps_if (pt_cmpR op_eq (pe_ix ix_tup (pv 3) pe_int (fun _ _ => rfl)) pe_str (nomark _))
          (pss_one
            (ps_expr (pe_bm PySem.F.plainAttrs_list PySem.F.slot_list_append PySem.F.type_list_append mt_append (pv 1) (pa_cons (pe_tup (pa_cons (pe_ix ix_tup (pv 3) pe_int (fun _ _ => rfl)) (pa_cons (pv 4) pa_nil))) pa_nil))))
          (pss_cons
            (ps_expr (pe_bm PySem.F.plainAttrs_list PySem.F.slot_list_append PySem.F.type_list_append mt_append (pv 2) (pa_cons (pe_tup (pa_cons (pe_ix ix_tup (pv 3) pe_int (fun _ _ => rfl)) (pa_cons (pe_op op_catA (pv 4) (pe_tup (pa_cons (pe_tup (pa_cons (pe_ix ix_tup (pv 3) pe_int (fun _ _ => rfl)) (pa_cons pe_int pa_nil))) pa_nil))) pa_nil))) pa_nil)))
            (pss_one
            (ps_expr (pe_bm PySem.F.plainAttrs_list PySem.F.slot_list_append PySem.F.type_list_append mt_append (pv 2) (pa_cons (pe_tup (pa_cons (pe_ix ix_tup (pv 3) pe_int (fun _ _ => rfl)) (pa_cons (pe_op op_catA (pv 4) (pe_tup (pa_cons (pe_tup (pa_cons (pe_ix ix_tup (pv 3) pe_int (fun _ _ => rfl)) (pa_cons pe_int pa_nil))) pa_nil))) pa_nil))) pa_nil)))))))))
        (pss_one
        (ps_ret (pv 1)))))), ?_⟩
    refine ⟨Nat.zero_le _, fun fa nfa => ?_⟩
    have s1 := same_new (o := .lst []) nfa
    have ef1 := upd_same (H := G) (a := fa) (o := .lst [])
    generalize upd G fa (.lst []) = H1 at s1 ef1 ⊢
    refine ⟨_, rfl, Nat.zero_le _, fun z nz => ?_⟩
    have s2 := s1.trans (same_new (o := .tup []) nz)
    have ef2 := same_new (o := .tup []) nz _ _ ef1
    have ez := upd_same (H := H1) (a := z) (o := .tup [])
    generalize upd H1 z (.tup []) = H2 at s2 ef2 ez ⊢
    refine ⟨(by show 2 ≤ sizeLine; decide), fun p0 np0 => ?_⟩
    have s3 := s2.trans (same_new (o := .tup [v, V.ref z]) np0)
    have r3 := same_new (o := .tup [v, V.ref z]) np0
    have ep0 := upd_same (H := H2) (a := p0) (o := .tup [v, V.ref z])
    generalize upd H2 p0 (.tup [v, V.ref z]) = H3 at s3 r3 ep0 ⊢
    refine ⟨(by show 1 ≤ sizeLine; decide), fun wa nwa => ?_⟩
    have r4 := same_new (o := .lst [V.ref p0]) nwa
    have s4 := s3.trans r4
    have ew4 := upd_same (H := H3) (a := wa) (o := .lst [V.ref p0])
    have ngw : G wa = none := s3.free nwa
    have nfw : fa ≠ wa := ne_of_none (r3 _ _ ef2) nwa
    have ef4 := r4 _ _ (r3 _ _ ef2)
    have st4 : StkV K (upd H3 wa (.lst [V.ref p0])) (.ref p0) (t, []) := ⟨p0, v, z, [], rfl, .inl (.inl (r4 _ _ ep0)), hv.same s4, .inl (.inl (r4 _ _ (r3 _ _ ez))), .nil⟩
    generalize upd H3 wa (.lst [V.ref p0]) = H4 at s4 ew4 ef4 st4 ⊢
    refine ⟨fun n σ H => ∃ y3 y4 fs ws dn stk, σ = [some v, some (.ref fa), some (.ref wa), y3, y4] ∧ Same G H ∧ H fa = some (.lst fs) ∧ H wa = some (.lst ws) ∧ Paired (EntV K H) fs dn ∧ Paired (StkV K H) ws stk ∧
        dn ++ fl stk = t.lvs [] ∧ ndS stk ≤ n ∧ ∀ p ∈ stk, p.2.length + p.1.ht ≤ 25,
      ⟨t.nd, _, _, [], [V.ref p0], [], [(t, [])], rfl, s4, ef4, ew4, .nil, .cons st4 .nil, by simp [fl], by simp [ndS], fun p hp => by rw [List.mem_singleton.mp hp]; show 0 + t.ht ≤ 25; omega⟩, ?_⟩
    rintro n σ H ⟨y3, y4, fs, ws, dn, stk, rfl, s5, ef, ew, PF, PS, tot, mn, bd⟩
    have total := congrArg List.length tot
    rw [List.length_append, Tree.lvs_len] at total
    have lfl := fl_len stk
    have lfs := Paired.len PF
    have lws := Paired.len PS
    refine ⟨_, rfl, _, .inl ⟨ws, .inl (.inl ew), rfl⟩, ?_⟩
    rcases List.eq_nil_or_concat stk with rfl | ⟨st, p, rfl⟩
    · cases PS
      refine iteF ⟨_, rfl, kk _ fa fs s5 nfa ef ?_⟩
      have tot : dn ++ [] = t.lvs [] := tot
      rw [List.append_nil] at tot
      rw [← tot]
      exact PF
    rw [List.concat_eq_append] at PS tot mn bd total lfl lws
    obtain ⟨ws, x, rfl, PSt, hx⟩ := paired_snoc_inv PS
    obtain ⟨pt, pl⟩ := p
    obtain ⟨pa, w0, pb, us, rfl, hq, hw, hb, hP⟩ := hx
    have ne : (!(ws ++ [V.ref pa]).isEmpty) = true := by
      cases ws <;> rfl
    rw [ne]
    rw [fl_snoc] at tot total lfl
    rw [ndS_snoc] at mn
    have bp := bd (pt, pl) (List.mem_append_right _ List.mem_cons_self)
    have bp : pl.length + pt.ht ≤ 25 := bp
    have lpl := Paired.len hP
    have last : (ws ++ [V.ref pa])[(ws ++ [V.ref pa]).length - 1]? = some (V.ref pa) := by simp
    have drop : (ws ++ [V.ref pa]).dropLast = ws := by simp
    refine iteT ⟨fun σ' H' => ∃ m, m < n ∧ ∃ y3 y4 fs ws dn stk, σ' = [some v, some (.ref fa), some (.ref wa), y3, y4] ∧ Same G H' ∧ H' fa = some (.lst fs) ∧ H' wa = some (.lst ws) ∧ Paired (EntV K H') fs dn ∧ Paired (StkV K H') ws stk ∧
        dn ++ fl stk = t.lvs [] ∧ ndS stk ≤ m ∧ ∀ p ∈ stk, p.2.length + p.1.ht ≤ 25, fun σ' H' ⟨m, hm, q⟩ => ⟨m, hm, q⟩, ?_⟩
    refine ⟨_, rfl, .inl ⟨rfl, _, .inl (.inl ew)⟩, wa, _, _, rfl, rfl, ew, last, ?_⟩
    rw [drop]
    have b6 : But wa H (upd H wa (.lst ws)) := But.at_
    have s6 := same_mut (o := .lst ws) s5 ngw
    have ew6 := upd_same (H := H) (a := wa) (o := .lst ws)
    have ef6 := b6 _ _ nfw ef
    have hq6 := sqT_but ew b6 hq
    have hw6 := hw.but ew b6
    have hb6 := sqT_but ew b6 hb
    have hP6 := lines_but ew b6 hP
    have PF6 := Paired.mono2 (fun _ _ => EntV.but ew b6) PF
    have PS6 := Paired.mono2 (fun _ _ => StkV.but ew b6) PSt
    generalize upd H wa (.lst ws) = H6 at s6 ew6 ef6 hq6 hw6 hb6 hP6 PF6 PS6 ⊢
    refine ⟨pa, _, rfl, hq6, rfl, _, _, rfl, _, _, rfl, rfl, ?_⟩
    rw [List.length_append] at total
    cases pt with
    | leaf i =>
      obtain ⟨a, rfl, ha⟩ := hw6
      have ltot : (Tree.lvs (.leaf i) pl).length = 1 := rfl
      refine ⟨_, rfl, a, _, 0, _, rfl, rfl, ha, atI_nat (j := 0) rfl, rfl, _, rfl, ite2 (fun _ => ?_) (fun z => absurd (decide_eq_true rfl) z)⟩
      refine ⟨_, rfl, .inl ⟨rfl, _, .inl (.inl ef6)⟩, _, rfl, a, _, 1, _, rfl, rfl, ha, atI_nat (j := 1) rfl, _, rfl, (by show 2 ≤ sizeLine; decide), fun q nq => ?_⟩
      have r7 := same_new (o := .tup [V.int (i : Int), V.ref pb]) nq
      have ef7 := r7 _ _ ef6
      have eq7 := upd_same (H := H6) (a := q) (o := .tup [V.int (i : Int), V.ref pb])
      generalize upd H6 q (.tup [V.int (i : Int), V.ref pb]) = H7 at r7 ef7 eq7 ⊢
      refine ⟨fa, fs, .ref q, rfl, rfl, ef7, small1000 (by omega), ?_⟩
      have b8 : But fa H7 (upd H7 fa (.lst (fs ++ [V.ref q]))) := But.at_
      have mn : ndS st + 1 ≤ n := mn
      refine ⟨ndS st, by omega, _, _, fs ++ [V.ref q], ws, dn ++ [(i, pl)], st, rfl, same_mut (s6.trans r7) nfa, upd_same, b8 _ _ (Ne.symm nfw) (r7 _ _ ew6), ?_, ?_, ?_, Nat.le_refl _, fun p hp => bd p (List.mem_append_left _ hp)⟩
      · exact PySem.Paired.snoc (Paired.mono2 (fun _ _ h => EntV.but ef7 b8 (EntV.same r7 h)) PF6) (EntV.but ef7 b8 ⟨q, pb, us, rfl, .inl (.inl eq7), sqT_same r7 hb6, lines_same r7 hP6⟩)
      · exact Paired.mono2 (fun _ _ h => StkV.but ef7 b8 (StkV.same r7 h)) PS6
      · rw [List.append_assoc]
        exact tot
    | ask m l r =>
      obtain ⟨a, w1, v0, v1, rfl, ha, hw1, h0, h1⟩ := hw6
      have bp : pl.length + (1 + max l.ht r.ht) ≤ 25 := bp
      have m0 := Nat.le_max_left l.ht r.ht
      have m1 := Nat.le_max_right l.ht r.ht
      refine ⟨_, rfl, a, _, 0, _, rfl, rfl, ha, atI_nat (j := 0) rfl, rfl, _, rfl, ite2 (fun z => absurd (V.str.inj (of_decide_eq_true z)) (by decide)) (fun _ => ?_)⟩
      have ltot : (Tree.lvs (.ask m l r) pl).length = l.sz + r.sz := Tree.lvs_len _ _
      rw [ltot] at total
      have lws2 := Paired.len PSt
      have lst := fl_len st
      have z0 := l.sz_pos
      have z1 := r.sz_pos
      refine ⟨_, rfl, .inl ⟨rfl, _, .inl (.inl ew6)⟩, _, rfl, a, _, 3, _, rfl, rfl, ha, atI_nat (j := 3) rfl, _, rfl, _, rfl, a, _, 1, _, rfl, rfl, ha, atI_nat (j := 1) rfl, (by show 2 ≤ sizeLine; decide), fun p1 np1 => ⟨(by show 1 ≤ sizeLine; decide), fun p2 np2 => ?_⟩⟩
      have r7 := same_new (o := .tup [w1, V.int 1]) np1
      have r8 := r7.trans (same_new (o := .tup [V.ref p1]) np2)
      have ep1 := same_new (o := .tup [V.ref p1]) np2 _ _ (upd_same (H := H6) (a := p1) (o := .tup [w1, V.int 1]))
      refine cat_line (sqT_same r8 hb6) (by omega) upd_same fun H8 q r9 hq8 => ?_
      have r69 := r8.trans r9
      refine ⟨(by show 2 ≤ sizeLine; decide), fun p3 np3 => ?_⟩
      have r10 := r69.trans (same_new (o := .tup [v1, V.ref q]) np3)
      have rr := same_new (o := .tup [v1, V.ref q]) np3
      have hst : StkV K (upd H8 p3 (.tup [v1, V.ref q])) (.ref p3) (r, pl ++ [(m, 1)]) := ⟨p3, v1, q, us ++ [V.ref p1], rfl, .inl (.inl upd_same), h1.same r10, sqT_same rr hq8, PySem.Paired.snoc (lines_same r10 hP6) ⟨p1, w1, rfl, .inl (.inl (rr _ _ (r9 _ _ ep1))), hw1.same r10⟩⟩
      generalize upd H8 p3 (.tup [v1, V.ref q]) = H9 at r10 rr hst ⊢
      have ew9 := r10 _ _ ew6
      refine ⟨wa, ws, .ref p3, rfl, rfl, ew9, small1000 (by omega), ?_⟩
      have b10 : But wa H9 (upd H9 wa (.lst (ws ++ [V.ref p3]))) := But.at_
      have s10 := same_mut (o := .lst (ws ++ [V.ref p3])) (s6.trans r10) ngw
      have ew10 := upd_same (H := H9) (a := wa) (o := .lst (ws ++ [V.ref p3]))
      have ef10 := b10 _ _ nfw (r10 _ _ ef6)
      have ha10 := sqT_but ew9 b10 (sqT_same r10 ha)
      have hb10 := sqT_but ew9 b10 (sqT_same r10 hb6)
      have hP10 := lines_but ew9 b10 (lines_same r10 hP6)
      have hw10 := (hw1.same r10).but ew9 b10
      have h010 := (h0.same r10).but ew9 b10
      have PF10 := Paired.mono2 (fun _ _ h => EntV.but ew9 b10 (EntV.same r10 h)) PF6
      have PS10 := PySem.Paired.snoc (Paired.mono2 (fun _ _ h => StkV.but ew9 b10 (StkV.same r10 h)) PS6) (hst.but ew9 b10)
      generalize upd H9 wa (.lst (ws ++ [V.ref p3])) = H10 at s10 ew10 ef10 ha10 hb10 hP10 hw10 h010 PF10 PS10 ⊢
      refine ⟨_, rfl, .inl ⟨rfl, _, .inl (.inl ew10)⟩, _, rfl, a, _, 2, _, rfl, rfl, ha10, atI_nat (j := 2) rfl, _, rfl, _, rfl, a, _, 1, _, rfl, rfl, ha10, atI_nat (j := 1) rfl, (by show 2 ≤ sizeLine; decide), fun g1 ng1 => ⟨(by show 1 ≤ sizeLine; decide), fun g2 ng2 => ?_⟩⟩
      have u7 := same_new (o := .tup [w1, V.int 0]) ng1
      have u8 := u7.trans (same_new (o := .tup [V.ref g1]) ng2)
      have eg1 := same_new (o := .tup [V.ref g1]) ng2 _ _ (upd_same (H := H10) (a := g1) (o := .tup [w1, V.int 0]))
      refine cat_line (sqT_same u8 hb10) (by omega) upd_same fun H11 q2 u9 hq11 => ?_
      have u69 := u8.trans u9
      refine ⟨(by show 2 ≤ sizeLine; decide), fun g3 ng3 => ?_⟩
      have u10 := u69.trans (same_new (o := .tup [v0, V.ref q2]) ng3)
      have uu := same_new (o := .tup [v0, V.ref q2]) ng3
      have hst2 : StkV K (upd H11 g3 (.tup [v0, V.ref q2])) (.ref g3) (l, pl ++ [(m, 0)]) := ⟨g3, v0, q2, us ++ [V.ref g1], rfl, .inl (.inl upd_same), h010.same u10, sqT_same uu hq11, PySem.Paired.snoc (lines_same u10 hP10) ⟨g1, w1, rfl, .inl (.inl (uu _ _ (u9 _ _ eg1))), hw10.same u10⟩⟩
      generalize upd H11 g3 (.tup [v0, V.ref q2]) = H12 at u10 uu hst2 ⊢
      have ew12 := u10 _ _ ew10
      refine ⟨wa, ws ++ [V.ref p3], .ref g3, rfl, rfl, ew12, small1000 (by rw [List.length_append, List.length_singleton]; omega), ?_⟩
      have b12 : But wa H12 (upd H12 wa (.lst (ws ++ [V.ref p3] ++ [V.ref g3]))) := But.at_
      have mn : ndS st + (1 + (l.nd + r.nd)) ≤ n := mn
      refine ⟨ndS st + r.nd + l.nd, by omega, _, _, fs, ws ++ [V.ref p3] ++ [V.ref g3], dn, st ++ [(r, pl ++ [(m, 1)])] ++ [(l, pl ++ [(m, 0)])], rfl, same_mut (s10.trans u10) ngw, b12 _ _ nfw (u10 _ _ ef10), upd_same,
        Paired.mono2 (fun _ _ h => EntV.but ew12 b12 (EntV.same u10 h)) PF10, PySem.Paired.snoc (Paired.mono2 (fun _ _ h => StkV.but ew12 b12 (StkV.same u10 h)) PS10) (hst2.but ew12 b12), ?_, ?_, ?_⟩
      · rw [fl_snoc, fl_snoc, ← tot]
        show dn ++ (Tree.lvs l (pl ++ [(m, 0)]) ++ (Tree.lvs r (pl ++ [(m, 1)]) ++ fl st)) = dn ++ ((Tree.lvs l (pl ++ [(m, 0)]) ++ Tree.lvs r (pl ++ [(m, 1)])) ++ fl st)
        rw [List.append_assoc]
      · rw [ndS_snoc, ndS_snoc]
        exact Nat.le_refl _
      · intro p hp
        rcases List.mem_append.mp hp with hp | hp
        · rcases List.mem_append.mp hp with hp | hp
          · exact bd p (List.mem_append_left _ hp)
          · rw [List.mem_singleton.mp hp]
            show (pl ++ [(m, 1)]).length + r.ht ≤ 25
            rw [List.length_append, List.length_singleton]
            omega
        · rw [List.mem_singleton.mp hp]
          show (pl ++ [(m, 0)]).length + l.ht ≤ 25
          rw [List.length_append, List.length_singleton]
          omega
end
end Es
set_option Elab.async false
set_option linter.all false
set_option maxRecDepth 100000
set_option maxHeartbeats 4000000
namespace Es
open PySem PySem.Spec PyProof.Rows L2
section
variable {P : Program} {w : World} {K : PySem.W.Frag} {mg : Str → Option Value} {base : Heap}
theorem ok_law_alike {f : Addr} {fd : FuncData} (F : Fun K "_law_alike" "_law_alike" s_law_alike f fd) (T : Txt mg)  : FnG P w K mg base 1 f fd ["found", "due"] (sp_law_alike K) := by
  refine okG F sc_law_alike (fun h => ?_) (fun cdv B out t0 G ys R E hr hg h => ?_)
  · obtain ⟨x, y, d, rfl, _⟩ := h
    rfl
  · obtain ⟨x, y, d, rfl, hx, hy, ni, dp, wt, k⟩ := h
    refine ⟨_, (pss_one
        (ps_ret (pe_and (pe_cmpR (op_eqD hr.units) (pv 0) (pv 1) (nomark _)) (pe_one (pe_cmpR op_eq (pe_callB (cr_repr hg hr.units) (by rfl) T.z_repr (by decide +kernel) (pa_cons (pv 0) pa_nil)) (pe_callB (cr_repr hg hr.units) (by rfl) T.z_repr (by decide +kernel) (pa_cons (pv 1) pa_nil)) (nomark _)))))), ?_⟩
    have sh := nice_shaped ni dp
    have e : PyData.eqv d d = true := SeqAt.eqv_refl d (nice_facts d ni).1
    refine ⟨_, rfl, _, rfl, d, d, hx, hy, sh, sh, _, rfl, ?_⟩
    rw [e]
    refine iteT ?_
    refine ⟨_, rfl, x, d, rfl, hx, ni, dp, wt, _, rfl, y, d, rfl, hy, ni, dp, wt, rfl, ?_⟩
    rw [decide_eq_true rfl]
    exact k
end
end Es
set_option Elab.async false
set_option linter.all false
set_option maxRecDepth 100000
set_option maxHeartbeats 4000000
namespace Es
open PySem PySem.Spec PyProof.Rows L2
section
variable {P : Program} {w : World} {K : PySem.W.Frag} {mg : Str → Option Value} {base : Heap}
theorem ok_law_tree_height {f : Addr} {fd : FuncData} (F : Fun K "_law_tree_height" "_law_tree_height" s_law_tree_height f fd) (T : Txt mg) {d : Nat} (c_law_tree_height : CalleeOf P w K mg base (1 + d) "_law_tree_height" ["tree"] (sp_law_tree_height K d)) : FnG P w K mg base (1 + d + 1) f fd ["tree"] (sp_law_tree_height K (d + 1)) := by
  refine okG F sc_law_tree_height (fun h => ?_) (fun cdv B out t0 G ys R E hr hg h => ?_)
  · obtain ⟨v, t, rfl, _⟩ := h
    rfl
  · obtain ⟨v, t, rfl, hv, hd, h40, kk⟩ := h
    refine ⟨_, (pss_one
        (ps_ret (pe_ifExp (pt_cmpR op_eq (pe_ix ix_tup (pv 0) pe_int (fun _ _ => rfl)) pe_str (nomark _)) pe_int (pe_op op_add pe_int (pe_callB (call_max2 rfl) (by rfl) T.z_max (by decide +kernel) (pa_cons (pe_callC c_law_tree_height (hr.mono (by omega)) hg (by rfl) (pa_cons (pe_ix ix_tup (pv 0) pe_int (fun _ _ => rfl)) pa_nil)) (pa_cons (pe_callC c_law_tree_height (hr.mono (by omega)) hg (by rfl) (pa_cons (pe_ix ix_tup (pv 0) pe_int (fun _ _ => rfl)) pa_nil)) pa_nil))))))), ?_⟩
    cases t with
    | leaf i =>
      obtain ⟨a, rfl, ha⟩ := hv
      exact ⟨_, rfl, a, _, 0, _, rfl, rfl, ha, atI_nat (j := 0) rfl, rfl, _, rfl, ite2 (fun _ => kk _ (Same.refl _)) (fun z => absurd (decide_eq_true rfl) z)⟩
    | ask m l r =>
      obtain ⟨a, w0, v0, v1, rfl, ha, hw, h0, h1⟩ := hv
      have hh : 1 + max l.ht r.ht < d + 1 := hd
      have h4 : 1 + max l.ht r.ht ≤ 40 := h40
      have l0 := Nat.le_max_left l.ht r.ht
      have l1 := Nat.le_max_right l.ht r.ht
      refine ⟨_, rfl, a, _, 0, _, rfl, rfl, ha, atI_nat (j := 0) rfl, rfl, _, rfl, ite2 (fun z => absurd (V.str.inj (of_decide_eq_true z)) (by decide)) (fun _ => ?_)⟩
      refine ⟨_, rfl, a, _, 2, _, rfl, rfl, ha, atI_nat (j := 2) rfl, v0, l, rfl, h0, by omega, by omega, fun H1 s1 => ?_⟩
      refine ⟨_, rfl, a, _, 3, _, rfl, rfl, sqT_same s1 ha, atI_nat (j := 3) rfl, v1, r, rfl, h1.same s1, by omega, by omega, fun H2 s2 => ?_⟩
      refine ⟨_, _, rfl, _, _, rfl, rfl, ?_⟩
      have e : (1 : Int) + (if (r.ht : Int) > (l.ht : Int) then (r.ht : Int) else (l.ht : Int)) = (((Tree.ask m l r).ht : Nat) : Int) := by
        show _ = ((1 + max l.ht r.ht : Nat) : Int)
        by_cases c : (r.ht : Int) > (l.ht : Int)
        · rw [if_pos c]
          omega
        · rw [if_neg c]
          omega
      show R (.int (1 + _)) H2
      rw [e]
      exact kk _ (s1.trans s2)
theorem rec_law_tree_height {f : Addr} {fd : FuncData} (F : Fun K "_law_tree_height" "_law_tree_height" s_law_tree_height f fd) (T : Txt mg)  (hm : mg "_law_tree_height" = some (.ref f)) (hk : PySem.W.keepIn K (.ref f) = true) (hb : Binds K fd ["tree"] []) : ∀ d, FnG P w K mg base (1 + d) f fd ["tree"] (sp_law_tree_height K d) := by
  intro d
  induction d with
  | zero => exact ⟨fun h => (no_law_tree_height h).elim, fun _ _ _ _ _ h => (no_law_tree_height h).elim⟩
  | succ d ih => exact ok_law_tree_height F T ⟨f, fd, ih, hm, hk, hb⟩
end
end Es
set_option Elab.async false
set_option linter.all false
set_option maxRecDepth 100000
set_option maxHeartbeats 4000000
namespace Es
open PySem PySem.Spec PyProof.Rows L2
section
variable {P : Program} {w : World} {K : PySem.W.Frag} {mg : Str → Option Value} {base : Heap}
theorem ok_height_of {f : Addr} {fd : FuncData} (F : Fun K "height_of" "height_of" s_height_of f fd) (T : Txt mg) (c_leaves_of : CalleeOf P w K mg base 1 "leaves_of" ["tree"] (sp_leaves_of K)) : FnG P w K mg base 2 f fd ["tree"] (sp_height_of K) := by
  refine okG F sc_height_of (fun h => ?_) (fun cdv B out t0 G ys R E hr hg h => ?_)
  · obtain ⟨v, t, rfl, _⟩ := h
    rfl
  · obtain ⟨v, t, rfl, hv, h25, s64, kk⟩ := h
    refine ⟨_, (pss_one
        (ps_ret (pe_callB (cr_max rfl) (by rfl) T.z_max (by decide +kernel) (pa_cons (pe_lc (own := [("_", 1), ("lines", 2)]) (g := (gTup K 2 (gCons (gName 1) (gCons (gName 2) gNil)))) rfl sc_height_of.nd (pi_list (pe_callC c_leaves_of (hr.mono (by decide)) hg (by rfl) (pa_cons (pv 0) pa_nil))) (blkOk_by (own := [("_", 1), ("lines", 2)]) (N := ["tree", "_", "lines"]) (sc := defScope s_height_of) (by decide +kernel)) (fun _ _ _ _ _ => (pg_tup (by rfl) (pgs_cons (pg_name (i := 1) sc_height_of.nd rfl (.inl rfl)) (pgs_cons (pg_name (i := 2) sc_height_of.nd rfl (.inl rfl)) pgs_nil)))) (fun _ _ _ _ _ => pts_nil) (fun _ _ _ _ _ => (pe_callB (r := rLenK K) call_len_seq (by rfl) T.z_len (by decide +kernel) (pa_cons (pv 2) pa_nil)))) pa_nil)))), ?_⟩
    refine ⟨_, rfl, v, t, rfl, hv, h25, s64, fun H1 a us s1 na ea P => ?_⟩
    have lus := Paired.len P
    rw [Tree.lvs_len] at lus
    refine ⟨a, rfl, ⟨_, .inl (.inl ea)⟩, fun D hD => ?_⟩
    refine lc_list (K := K) (a := a) (xs := us) (fun j H' => H' D = some (.lst (iv (((t.lvs []).take j).map fun e => e.2.length))) ∧ Same H1 H') ⟨upd_same, same_new hD⟩ (fun j H' _ ⟨_, s⟩ => .inl (.inl (s _ _ ea))) ?_ ?_
    · rintro j y H' hj ⟨eD, s2⟩
      obtain ⟨e, he, hy⟩ := Paired.get P hj
      have hjl := (List.getElem?_eq_some_iff.mp he).1
      obtain ⟨p, b, ws, rfl, h1, h2, h3⟩ := EntV.same s2 hy
      refine ⟨p, _, rfl, h1, rfl, _, _, rfl, _, _, rfl, rfl, rfl, _, rfl, b, ws, rfl, .inr h2, _, eD, ?_, ?_, same_mut s2 hD⟩
      · rw [iv_len, List.length_map, List.length_take]
        exact small1000 (by rw [Tree.lvs_len] at hjl ⊢; omega)
      · rw [upd_same, List.take_succ_eq_append_getElem hjl, (List.getElem?_eq_some_iff.mp he).2, Paired.len h3]
        simp [iv]
    rintro H2 ⟨eD, s2⟩
    rw [lus, ← Tree.lvs_len t [], List.take_length] at eD
    rw [iv_ints] at eD
    refine ⟨D, _, rfl, .inl (.inl eD), ?_, fun m hm hmax => ?_⟩
    · rw [List.length_map, List.length_map, Tree.lvs_len]
      exact t.sz_pos
    · have e : m = (t.ht : Int) := by
        obtain ⟨n, hn, rfl⟩ := List.mem_map.mp hm
        obtain ⟨e, he, rfl⟩ := List.mem_map.mp hn
        have h1 := t.lvs_le [] e he
        obtain ⟨g, hg, q⟩ := t.lvs_ht []
        have h2 := hmax _ (List.mem_map.mpr ⟨_, List.mem_map.mpr ⟨g, hg, rfl⟩, rfl⟩)
        rw [List.length_nil, Nat.zero_add] at h1 q
        rw [q] at h2
        show ((e.2.length : Nat) : Int) = _
        have h2 : ((t.ht : Nat) : Int) ≤ ((e.2.length : Nat) : Int) := h2
        omega
      rw [e]
      exact kk _ (s1.trans s2)
end
end Es
set_option Elab.async false
set_option linter.all false
set_option maxRecDepth 100000
set_option maxHeartbeats 4000000
namespace Es
open PySem PySem.Spec PyProof.Rows L2
section
variable {P : Program} {w : World} {K : PySem.W.Frag} {mg : Str → Option Value} {base : Heap}
theorem ok_law {f : Addr} {fd : FuncData} (F : Fun K "law" "law" s_law f fd) (T : Txt mg) (c_law_bag : CalleeOf P w K mg base 1 "_law_bag" ["script"] (sp_law_bag K)) (c_law_take : CalleeOf P w K mg base 1 "_law_take" ["bag", "many"] (sp_law_take K)) (c_law_any_tree : CalleeOf P w K mg base 11 "_law_any_tree" ["bag", "many", "clauses", "deep"] (sp_law_any_treeD K)) (c_law_some : CalleeOf P w K mg base 2 "_law_some" ["bag", "things"] (sp_law_some K)) (c_law_lopsided : CalleeOf P w K mg base 12 "_law_lopsided" ["bag", "many", "clauses", "deep"] (sp_law_lopsided K)) (c_law_tree_leaves : CalleeOf P w K mg base 27 "_law_tree_leaves" ["tree", "lines"] (sp_law_tree_leavesD K)) (c_leaves_of : CalleeOf P w K mg base 1 "leaves_of" ["tree"] (sp_leaves_of K)) (c_law_alike : CalleeOf P w K mg base 1 "_law_alike" ["found", "due"] (sp_law_alike K)) (c_law_tree_height : CalleeOf P w K mg base 27 "_law_tree_height" ["tree"] (sp_law_tree_heightD K)) (c_height_of : CalleeOf P w K mg base 2 "height_of" ["tree"] (sp_height_of K)) : FnG P w K mg base 28 f fd ["script"] (sp_law K) := by
  refine okG F sc_law (fun h => ?_) (fun cdv B out t0 G ys R E hr hg h => ?_)
  · obtain ⟨a, ns, rfl, _⟩ := h
    rfl
  · obtain ⟨a, ns, rfl, hS, hl, k⟩ := h
    refine ⟨_, (pss_cons
        (ps_set (i := 1) sc_law.nd rfl (Or.inl rfl) (pe_callC c_law_bag (hr.mono (by decide)) hg (by rfl) (pa_cons (pv 0) pa_nil)))
        (pss_cons
        (ps_for PassesOwn.never rfl (pi_range1 (by rfl) T.z_range (pa_cons pe_int pa_nil)) (pg_name (i := 2) sc_law.nd rfl (.inl rfl))
        (pss_cons
          (ps_par (i := 3) (j := 4) rfl sc_law.nd rfl rfl (by decide) rfl rfl (pa_cons (pe_op op_add pe_int (pe_callC c_law_take (hr.mono (by decide)) hg (by rfl) (pa_cons (pv 1) (pa_cons pe_int pa_nil)))) (pa_cons (pe_op op_add pe_int (pe_callC c_law_take (hr.mono (by decide)) hg (by rfl) (pa_cons (pv 1) (pa_cons pe_int pa_nil)))) pa_nil)) (by rfl))
          (pss_cons
          (ps_set (i := 5) sc_law.nd rfl (Or.inl rfl) (pe_callC c_law_any_tree (hr.mono (by decide)) hg (by rfl) (pa_cons (pv 1) (pa_cons (pv 3) (pa_cons (pv 4) (pa_cons (pe_callC c_law_some (hr.mono (by decide)) hg (by rfl) (pa_cons (pv 1) (pa_cons (pe_lst (pa_cons pe_int (pa_cons pe_int (pa_cons pe_int (pa_cons pe_int pa_nil))))) pa_nil))) pa_nil))))))
          (Evl.pss_cut
          (ps_if (pt_cmpR op_eq (pe_callC c_law_take (hr.mono (by decide)) hg (by rfl) (pa_cons (pv 1) (pa_cons pe_int pa_nil))) pe_int (nomark _))
          (pss_one
            (ps_set (i := 5) sc_law.nd rfl (Or.inl rfl) (pe_callC c_law_lopsided (hr.mono (by decide)) hg (by rfl) (pa_cons (pv 1) (pa_cons (pv 3) (pa_cons (pv 4) (pa_cons (pe_callC c_law_some (hr.mono (by decide)) hg (by rfl) (pa_cons (pv 1) (pa_cons (pe_lst (pa_cons pe_int (pa_cons pe_int (pa_cons pe_int pa_nil)))) pa_nil))) pa_nil)))))))
          pss_nil)
          (pss_cons
          (ps_par (i := 6) (j := 7) rfl sc_law.nd rfl rfl (by decide) rfl rfl (pa_cons (pe_callC c_law_tree_leaves (hr.mono (by decide)) hg (by rfl) (pa_cons (pv 5) (pa_cons (pe_tup pa_nil) pa_nil))) (pa_cons (pe_callB (cr_repr hg hr.units) (by rfl) T.z_repr (by decide +kernel) (pa_cons (pv 5) pa_nil)) pa_nil)) (by rfl))
          (pss_one
          (ps_for PassesOwn.never rfl (pi_range1 (by rfl) T.z_range (pa_cons pe_int pa_nil)) (pg_name (i := 8) sc_law.nd rfl (.inl rfl))
          (pss_cons
            (ps_set (i := 9) sc_law.nd rfl (Or.inl rfl) (pe_callC c_leaves_of (hr.mono (by decide)) hg (by rfl) (pa_cons (pv 5) pa_nil)))
            (pss_cons
            (ps_if (PW.pt (pw_or (pt_not (pt_val (pe_callC c_law_alike (hr.mono (by decide)) hg (by rfl) (pa_cons (pe_lst (pa_cons (pv 9) (pa_cons (pe_callC c_height_of (hr.mono (by decide)) hg (by rfl) (pa_cons (pv 5) pa_nil)) pa_nil))) (pa_cons (pe_lst (pa_cons (pv 6) (pa_cons (pe_callC c_law_tree_height (hr.mono (by decide)) hg (by rfl) (pa_cons (pv 5) pa_nil)) pa_nil))) pa_nil))))) (pw_or1 (pt_cmpR op_ne (pe_callB (cr_repr hg hr.units) (by rfl) T.z_repr (by decide +kernel) (pa_cons (pv 5) pa_nil)) (pv 7) (nomark _)))))
            (pss_one
              (ps_ret pe_bl))
            pss_nil)
            (pss_one
            (ps_expr (pe_bm PySem.F.plainAttrs_list PySem.F.slot_list_append PySem.F.type_list_append mt_append (pv 9) (pa_cons pe_non pa_nil)))))))))))))
        (pss_one
        (ps_ret pe_bl)))), ?_⟩
    refine ⟨_, rfl, a, ns, rfl, hS, hl, fun H0 b c s0 nb nc hB0 => ?_⟩
    refine ⟨6, rfl, by decide, by decide, for_range (lo := 0) (n := 6) (fun i σ H => ∃ y2 y3 y4 y5 y6 y7 y8 y9, σ = [some (.ref a), some (.ref b), y2, y3, y4, y5, y6, y7, y8, y9] ∧ BagAt K H b c)
      ⟨_, _, _, _, _, _, _, _, rfl, hB0⟩ ?_ ?_⟩
    · rintro i σ H hi ⟨y2, y3, y4, y5, y6, y7, y8, y9, rfl, hB⟩
      refine ⟨_, rfl, b, c, 6, rfl, hB, by decide, by decide, fun H1 n s1 B1 hn => ?_⟩
      refine ⟨_, _, rfl, rfl, ?_⟩
      refine ⟨_, rfl, b, c, 9, rfl, B1, by decide, by decide, fun H2 w s2 B2 hw => ⟨_, _, rfl, rfl, _, _, rfl, ?_⟩⟩
      have eN : (1 : Int) + (n : Int) = ((1 + n : Nat) : Int) := by omega
      have eK : (1 : Int) + (w : Int) = ((1 + w : Nat) : Int) := by omega
      refine ⟨_, rfl, _, rfl, _, rfl, _, rfl, (by show 4 ≤ sizeLine; decide), fun l nl => ?_⟩
      have sl := same_new (o := .lst [V.int 2, V.int 3, V.int 5, V.int 0]) nl
      obtain ⟨yb, eb⟩ := B2.lst
      refine ⟨b, c, l, _, rfl, B2.same sl, (ne_of_none eb nl).symm, .inl (.inl (.inl upd_same)), by show 0 < 4; decide, by show 4 < 1073741824; decide, fun H3 r3 v3 s3 B3 hv3 => ?_⟩
      obtain ⟨e, rfl, e5⟩ : ∃ e : Nat, v3 = .int (e : Int) ∧ e ≤ 5 := by
        rcases r3 with _ | _ | _ | _ | r
        · exact ⟨2, (Option.some.inj hv3).symm, by decide⟩
        · exact ⟨3, (Option.some.inj hv3).symm, by decide⟩
        · exact ⟨5, (Option.some.inj hv3).symm, by decide⟩
        · exact ⟨0, (Option.some.inj hv3).symm, by decide⟩
        · simp at hv3
      refine ⟨b, c, 1 + n, 1 + w, e, by show [V.ref b, V.int (1 + (n : Int)), V.int (1 + (w : Int)), V.int (e : Int)] = _; rw [eN, eK], B3, by omega, by omega, by omega, by omega, by omega, fun H4 v4 t4 s4 B4 h4 o4 ht4 sz4 => ?_⟩
      have p5 : 2 ^ e ≤ 2 ^ 5 := Nat.pow_le_pow_right (by decide) e5
      refine ⟨fun σ H => ∃ v t, σ = [some (.ref a), some (.ref b), some (.int (0 + (i : Int))), some (.int (1 + (n : Int))), some (.int (1 + (w : Int))), some v, y6, y7, y8, y9] ∧ BagAt K H b c ∧ TreeV K H v t ∧ t.ok ∧ t.ht ≤ 25 ∧ t.sz ≤ 64, ?_, ?_⟩
      · refine ⟨_, rfl, b, c, 3, rfl, B4, by decide, by decide, fun H5 r5 s5 B5 hr5 => ⟨rfl, _, rfl, ite2 (fun _ => ?_) (fun _ => ?_)⟩⟩
        · refine ⟨_, rfl, _, rfl, _, rfl, _, rfl, (by show 3 ≤ sizeLine; decide), fun l2 nl2 => ?_⟩
          have sl2 := same_new (o := .lst [V.int 6, V.int 12, V.int 20]) nl2
          obtain ⟨yc, ec⟩ := B5.lst
          refine ⟨b, c, l2, _, rfl, B5.same sl2, (ne_of_none ec nl2).symm, .inl (.inl (.inl upd_same)), by show 0 < 3; decide, by show 3 < 1073741824; decide, fun H6 r6 v6 s6 B6 hv6 => ?_⟩
          obtain ⟨g, rfl, g20⟩ : ∃ e : Nat, v6 = .int (e : Int) ∧ e ≤ 20 := by
            rcases r6 with _ | _ | _ | r
            · exact ⟨6, (Option.some.inj hv6).symm, by decide⟩
            · exact ⟨12, (Option.some.inj hv6).symm, by decide⟩
            · exact ⟨20, (Option.some.inj hv6).symm, by decide⟩
            · simp at hv6
          exact ⟨b, c, 1 + n, 1 + w, g, by show [V.ref b, V.int (1 + (n : Int)), V.int (1 + (w : Int)), V.int (g : Int)] = _; rw [eN, eK], B6, by omega, by omega, by omega, by omega, g20, fun H7 v7 t7 s7 B7 h7 o7 ht7 sz7 => ⟨v7, t7, rfl, B7, h7, o7, by omega, by omega⟩⟩
        · exact ⟨v4, t4, rfl, B5, h4.bag B4 s5, o4, by omega, by omega⟩
      · rintro σ H5 ⟨v, t, rfl, B5, hv, o, h25, s64⟩
        have n1 := treeD_nice o
        have n2 : (treeD t).depth ≤ 40 := Nat.le_trans (treeD_depth t) (by omega)
        have n3 : (treeD t).weight ≤ 2 ^ 20 := by
          have := treeD_weight t o
          omega
        obtain ⟨f1, f2, f3⟩ := toldT_facts o h25 s64
        refine ⟨_, rfl, Nat.zero_le _, fun z nz => ?_⟩
        have sz := same_new (o := .tup []) nz
        refine ⟨v, z, [], t, [], rfl, hv.same sz, .inl (.inl upd_same), .nil, by omega, by show 0 + t.ht ≤ 40; omega, s64, fun H6 A es s6 nA eA PA => ?_⟩
        have s56 := sz.trans s6
        have hv6 := hv.same s56
        have B6 := B5.same s56
        refine ⟨_, rfl, v, treeD t, rfl, dp_tree hv6, n1, n2, n3, _, _, rfl, ?_⟩
        refine ⟨2, rfl, by decide, by decide, for_range (lo := 0) (n := 2) (fun j σ H => ∃ y8 y9, σ = [some (.ref a), some (.ref b), some (.int (0 + (i : Int))), some (.int (1 + (n : Int))), some (.int (1 + (w : Int))), some v, some (.ref A), some (.str (treeD t).shown), y8, y9] ∧ Same H6 H)
          ⟨_, _, rfl, Same.refl _⟩ ?_ ?_⟩
        · rintro j σ H hj ⟨y8, y9, rfl, s7⟩
          refine ⟨_, rfl, v, t, rfl, hv6.same s7, h25, s64, fun H8 q us s8 nq eq Pq => ?_⟩
          have s68 := s7.trans s8
          refine ⟨_, rfl, _, rfl, v, t, rfl, hv6.same s68, h25, s64, fun H9 s9 => ⟨(by show 2 ≤ sizeLine; decide), fun l1 nl1 => ?_⟩⟩
          have r10 := s9.trans (same_new (o := .lst [V.ref q, V.int (t.ht : Int)]) nl1)
          have e10 := upd_same (H := H9) (a := l1) (o := .lst [V.ref q, V.int (t.ht : Int)])
          generalize upd H9 l1 (.lst [V.ref q, V.int (t.ht : Int)]) = H10 at r10 e10 ⊢
          have s610 := s68.trans r10
          refine ⟨_, rfl, _, rfl, v, t, rfl, hv6.same s610, by omega, by omega, fun H11 s11 => ⟨(by show 2 ≤ sizeLine; decide), fun l2 nl2 => ?_⟩⟩
          have r12 := s11.trans (same_new (o := .lst [V.ref A, V.int (t.ht : Int)]) nl2)
          have e12 := upd_same (H := H11) (a := l2) (o := .lst [V.ref A, V.int (t.ht : Int)])
          generalize upd H11 l2 (.lst [V.ref A, V.int (t.ht : Int)]) = H12 at r12 e12 ⊢
          have s612 := s610.trans r12
          have s812 := r10.trans r12
          have eq12 := s812 _ _ eq
          refine ⟨.ref l1, .ref l2, toldT t, rfl, .lst (.inl (.inl (r12 _ _ e10))) (.cons (.lst (.inl (.inl eq12)) (dp_ents (Paired.mono2 (fun _ _ => EntV.same s812) Pq))) (.cons (.int _) .nil)),
            .lst (.inl (.inl e12)) (.cons (.lst (.inl (.inl (s612 _ _ eA))) (dp_ents (Paired.mono2 (fun _ _ => EntV.same s612) PA))) (.cons (.int _) .nil)), f1, f2, f3, _, rfl, iteF ?_⟩
          refine ⟨_, rfl, v, treeD t, rfl, dp_tree (hv6.same s612), n1, n2, n3, _, rfl, rfl, _, rfl, ?_⟩
          rw [decide_eq_true rfl]
          have lus := Paired.len Pq
          rw [Tree.lvs_len] at lus
          refine iteF ⟨_, rfl, .inl ⟨rfl, _, .inl (.inl eq12)⟩, q, us, .non, rfl, rfl, eq12, small1000 (by omega), ?_⟩
          exact ⟨_, _, rfl, same_mut s612 (s7.free nq)⟩
        · rintro σ H ⟨y8, y9, rfl, s7⟩
          exact ⟨_, _, _, _, _, _, _, _, rfl, B6.same s7⟩
    · rintro σ H ⟨y2, y3, y4, y5, y6, y7, y8, y9, rfl, hB⟩
      exact k _
end
end Es
namespace Es
open PySem PySem.Spec PyProof.Rows L2
theorem all_mk {l : PySem.W.OpenLaw} {w : World} {K : PySem.W.Frag} {h : Heap} {mg : Str → Option Value} {fa f1 f2 f3 f4 f5 f6 f7 f8 f9 f10 f11 f12 f13 f14 : Addr} (X : K.In h) (G : h.Ns mainGlobals mg) (hfa : mg "law" = some (.ref fa))
    {od1 an1 od2 an2 od3 an3 od4 an4 od5 an5 od6 an6 od7 an7 od8 an8 od9 an9 od10 an10 od11 an11 od12 an12 od13 an13 od14 an14 : Option Addr} {sl1 sl2 sl3 sl4 sl5 sl6 sl7 sl8 sl9 sl10 sl11 sl12 sl13 sl14 : Array (Option Value)} {oc1 kV1 dc1 pm1 cd1 ct1 oc2 kV2 dc2 pm2 cd2 ct2 oc3 kV3 dc3 pm3 cd3 ct3 oc4 kV4 dc4 pm4 cd4 ct4 oc5 kV5 dc5 pm5 cd5 ct5 oc6 kV6 dc6 pm6 cd6 ct6 oc7 kV7 dc7 pm7 cd7 ct7 oc8 kV8 dc8 pm8 cd8 ct8 oc9 kV9 dc9 pm9 cd9 ct9 oc10 kV10 dc10 pm10 cd10 ct10 oc11 kV11 dc11 pm11 cd11 ct11 oc12 kV12 dc12 pm12 cd12 ct12 oc13 kV13 dc13 pm13 cd13 ct13 oc14 kV14 dc14 pm14 cd14 ct14 : Value}
    (a1 : PySem.W.nsIn K mainGlobals "_law_bag" = some (some (.ref f1))) (l1 : K.lookup f1 = some ⟨oc1, od1, .func (PySem.W.fnOf "_law_bag" "_law_bag" (defArgs s_law_bag) (defBody s_law_bag) (defScope s_law_bag) .none kV1 dc1 pm1 an1 cd1 ct1), sl1⟩) (c1 : PySem.W.codeIn K cd1 "_law_bag" = true) (k1 : PySem.W.keepIn K (.ref f1) = true)
    (a2 : PySem.W.nsIn K mainGlobals "_law_take" = some (some (.ref f2))) (l2 : K.lookup f2 = some ⟨oc2, od2, .func (PySem.W.fnOf "_law_take" "_law_take" (defArgs s_law_take) (defBody s_law_take) (defScope s_law_take) .none kV2 dc2 pm2 an2 cd2 ct2), sl2⟩) (c2 : PySem.W.codeIn K cd2 "_law_take" = true) (k2 : PySem.W.keepIn K (.ref f2) = true)
    (a3 : PySem.W.nsIn K mainGlobals "_law_some" = some (some (.ref f3))) (l3 : K.lookup f3 = some ⟨oc3, od3, .func (PySem.W.fnOf "_law_some" "_law_some" (defArgs s_law_some) (defBody s_law_some) (defScope s_law_some) .none kV3 dc3 pm3 an3 cd3 ct3), sl3⟩) (c3 : PySem.W.codeIn K cd3 "_law_some" = true) (k3 : PySem.W.keepIn K (.ref f3) = true)
    (a4 : PySem.W.nsIn K mainGlobals "_law_row" = some (some (.ref f4))) (l4 : K.lookup f4 = some ⟨oc4, od4, .func (PySem.W.fnOf "_law_row" "_law_row" (defArgs s_law_row) (defBody s_law_row) (defScope s_law_row) .none kV4 dc4 pm4 an4 cd4 ct4), sl4⟩) (c4 : PySem.W.codeIn K cd4 "_law_row" = true) (k4 : PySem.W.keepIn K (.ref f4) = true)
    (a5 : PySem.W.nsIn K mainGlobals "_law_any_row" = some (some (.ref f5))) (l5 : K.lookup f5 = some ⟨oc5, od5, .func (PySem.W.fnOf "_law_any_row" "_law_any_row" (defArgs s_law_any_row) (defBody s_law_any_row) (defScope s_law_any_row) .none kV5 dc5 pm5 an5 cd5 ct5), sl5⟩) (c5 : PySem.W.codeIn K cd5 "_law_any_row" = true) (k5 : PySem.W.keepIn K (.ref f5) = true)
    (a6 : PySem.W.nsIn K mainGlobals "_law_any_tree" = some (some (.ref f6))) (l6 : K.lookup f6 = some ⟨oc6, od6, .func (PySem.W.fnOf "_law_any_tree" "_law_any_tree" (defArgs s_law_any_tree) (defBody s_law_any_tree) (defScope s_law_any_tree) .none kV6 dc6 pm6 an6 cd6 ct6), sl6⟩) (c6 : PySem.W.codeIn K cd6 "_law_any_tree" = true) (k6 : PySem.W.keepIn K (.ref f6) = true)
    (a7 : PySem.W.nsIn K mainGlobals "_law_mixed" = some (some (.ref f7))) (l7 : K.lookup f7 = some ⟨oc7, od7, .func (PySem.W.fnOf "_law_mixed" "_law_mixed" (defArgs s_law_mixed) (defBody s_law_mixed) (defScope s_law_mixed) .none kV7 dc7 pm7 an7 cd7 ct7), sl7⟩) (c7 : PySem.W.codeIn K cd7 "_law_mixed" = true) (k7 : PySem.W.keepIn K (.ref f7) = true)
    (a8 : PySem.W.nsIn K mainGlobals "_law_lopsided" = some (some (.ref f8))) (l8 : K.lookup f8 = some ⟨oc8, od8, .func (PySem.W.fnOf "_law_lopsided" "_law_lopsided" (defArgs s_law_lopsided) (defBody s_law_lopsided) (defScope s_law_lopsided) .none kV8 dc8 pm8 an8 cd8 ct8), sl8⟩) (c8 : PySem.W.codeIn K cd8 "_law_lopsided" = true) (k8 : PySem.W.keepIn K (.ref f8) = true)
    (a9 : PySem.W.nsIn K mainGlobals "_law_tree_leaves" = some (some (.ref f9))) (l9 : K.lookup f9 = some ⟨oc9, od9, .func (PySem.W.fnOf "_law_tree_leaves" "_law_tree_leaves" (defArgs s_law_tree_leaves) (defBody s_law_tree_leaves) (defScope s_law_tree_leaves) .none kV9 dc9 pm9 an9 cd9 ct9), sl9⟩) (c9 : PySem.W.codeIn K cd9 "_law_tree_leaves" = true) (k9 : PySem.W.keepIn K (.ref f9) = true)
    (a10 : PySem.W.nsIn K mainGlobals "leaves_of" = some (some (.ref f10))) (l10 : K.lookup f10 = some ⟨oc10, od10, .func (PySem.W.fnOf "leaves_of" "leaves_of" (defArgs s_leaves_of) (defBody s_leaves_of) (defScope s_leaves_of) .none kV10 dc10 pm10 an10 cd10 ct10), sl10⟩) (c10 : PySem.W.codeIn K cd10 "leaves_of" = true) (k10 : PySem.W.keepIn K (.ref f10) = true)
    (a11 : PySem.W.nsIn K mainGlobals "_law_alike" = some (some (.ref f11))) (l11 : K.lookup f11 = some ⟨oc11, od11, .func (PySem.W.fnOf "_law_alike" "_law_alike" (defArgs s_law_alike) (defBody s_law_alike) (defScope s_law_alike) .none kV11 dc11 pm11 an11 cd11 ct11), sl11⟩) (c11 : PySem.W.codeIn K cd11 "_law_alike" = true) (k11 : PySem.W.keepIn K (.ref f11) = true)
    (a12 : PySem.W.nsIn K mainGlobals "_law_tree_height" = some (some (.ref f12))) (l12 : K.lookup f12 = some ⟨oc12, od12, .func (PySem.W.fnOf "_law_tree_height" "_law_tree_height" (defArgs s_law_tree_height) (defBody s_law_tree_height) (defScope s_law_tree_height) .none kV12 dc12 pm12 an12 cd12 ct12), sl12⟩) (c12 : PySem.W.codeIn K cd12 "_law_tree_height" = true) (k12 : PySem.W.keepIn K (.ref f12) = true)
    (a13 : PySem.W.nsIn K mainGlobals "height_of" = some (some (.ref f13))) (l13 : K.lookup f13 = some ⟨oc13, od13, .func (PySem.W.fnOf "height_of" "height_of" (defArgs s_height_of) (defBody s_height_of) (defScope s_height_of) .none kV13 dc13 pm13 an13 cd13 ct13), sl13⟩) (c13 : PySem.W.codeIn K cd13 "height_of" = true) (k13 : PySem.W.keepIn K (.ref f13) = true)
    (a14 : PySem.W.nsIn K mainGlobals "law" = some (some (.ref f14))) (l14 : K.lookup f14 = some ⟨oc14, od14, .func (PySem.W.fnOf "law" "law" (defArgs s_law) (defBody s_law) (defScope s_law) .none kV14 dc14 pm14 an14 cd14 ct14), sl14⟩) (c14 : PySem.W.codeIn K cd14 "law" = true) (k14 : PySem.W.keepIn K (.ref f14) = true)
    (z1 : PySem.W.nsIn K mainGlobals "max" = some none)
    (z2 : PySem.W.nsIn K mainGlobals "len" = some none)
    (z3 : PySem.W.nsIn K mainGlobals "abs" = some none)
    (z4 : PySem.W.nsIn K mainGlobals "int" = some none)
    (z5 : PySem.W.nsIn K mainGlobals "repr" = some none)
    (z6 : PySem.W.nsIn K mainGlobals "tuple" = some none)
    (z7 : PySem.W.nsIn K mainGlobals "range" = some none) :
    ∃ fd : FuncData, (∀ (s : Shared) (v : Value), BindsTo s fd ⟨[v], []⟩ [("script", v)]) ∧ ∀ base : Heap, K.In base → base.Ns mainGlobals mg → FnG l.prog w K mg base 28 fa fd ["script"] (sp_law K) := by
  have e := hfa.symm.trans (PySem.W.mg_of X G a14)
  cases e
  have F1 := fun_mk (st := s_law_bag) l1 c1 k1
  have b1 := F1.binds (ps := ["script"]) fun _ _ _ _ _ _ us hl => match us, hl with | [_], _ => rfl
  have F2 := fun_mk (st := s_law_take) l2 c2 k2
  have b2 := F2.binds (ps := ["bag", "many"]) fun _ _ _ _ _ _ us hl => match us, hl with | [_, _], _ => rfl
  have F3 := fun_mk (st := s_law_some) l3 c3 k3
  have b3 := F3.binds (ps := ["bag", "things"]) fun _ _ _ _ _ _ us hl => match us, hl with | [_, _], _ => rfl
  have F4 := fun_mk (st := s_law_row) l4 c4 k4
  have b4 := F4.binds (ps := ["mask"]) fun _ _ _ _ _ _ us hl => match us, hl with | [_], _ => rfl
  have F5 := fun_mk (st := s_law_any_row) l5 c5 k5
  have b5 := F5.binds (ps := ["bag", "many"]) fun _ _ _ _ _ _ us hl => match us, hl with | [_, _], _ => rfl
  have F6 := fun_mk (st := s_law_any_tree) l6 c6 k6
  have b6 := F6.binds (ps := ["bag", "many", "clauses", "deep"]) fun _ _ _ _ _ _ us hl => match us, hl with | [_, _, _, _], _ => rfl
  have F7 := fun_mk (st := s_law_mixed) l7 c7 k7
  have b7 := F7.binds (ps := ["bag", "things"]) fun _ _ _ _ _ _ us hl => match us, hl with | [_, _], _ => rfl
  have F8 := fun_mk (st := s_law_lopsided) l8 c8 k8
  have b8 := F8.binds (ps := ["bag", "many", "clauses", "deep"]) fun _ _ _ _ _ _ us hl => match us, hl with | [_, _, _, _], _ => rfl
  have F9 := fun_mk (st := s_law_tree_leaves) l9 c9 k9
  have b9 := F9.binds (ps := ["tree", "lines"]) fun _ _ _ _ _ _ us hl => match us, hl with | [_, _], _ => rfl
  have F10 := fun_mk (st := s_leaves_of) l10 c10 k10
  have b10 := F10.binds (ps := ["tree"]) fun _ _ _ _ _ _ us hl => match us, hl with | [_], _ => rfl
  have F11 := fun_mk (st := s_law_alike) l11 c11 k11
  have b11 := F11.binds (ps := ["found", "due"]) fun _ _ _ _ _ _ us hl => match us, hl with | [_, _], _ => rfl
  have F12 := fun_mk (st := s_law_tree_height) l12 c12 k12
  have b12 := F12.binds (ps := ["tree"]) fun _ _ _ _ _ _ us hl => match us, hl with | [_], _ => rfl
  have F13 := fun_mk (st := s_height_of) l13 c13 k13
  have b13 := F13.binds (ps := ["tree"]) fun _ _ _ _ _ _ us hl => match us, hl with | [_], _ => rfl
  have F14 := fun_mk (st := s_law) l14 c14 k14
  have T : Txt mg := ⟨PySem.W.mg_none_of X G z1, PySem.W.mg_none_of X G z2, PySem.W.mg_none_of X G z3, PySem.W.mg_none_of X G z4, PySem.W.mg_none_of X G z5, PySem.W.mg_none_of X G z6, PySem.W.mg_none_of X G z7⟩
  refine ⟨PySem.W.fnOf "law" "law" (defArgs s_law) (defBody s_law) (defScope s_law) .none kV14 dc14 pm14 an14 cd14 ct14, fun s v => .of_eq rfl, fun base _ _ => ?_⟩
  have y1 : CalleeOf l.prog w K mg base 1 "_law_bag" ["script"] (sp_law_bag K) := ⟨f1, _, ok_law_bag F1 T , PySem.W.mg_of X G a1, k1, b1⟩
  have y2 : CalleeOf l.prog w K mg base 1 "_law_take" ["bag", "many"] (sp_law_take K) := ⟨f2, _, ok_law_take F2 T , PySem.W.mg_of X G a2, k2, b2⟩
  have y3 : CalleeOf l.prog w K mg base 2 "_law_some" ["bag", "things"] (sp_law_some K) := ⟨f3, _, ok_law_some F3 T y2, PySem.W.mg_of X G a3, k3, b3⟩
  have y4 : CalleeOf l.prog w K mg base 1 "_law_row" ["mask"] (sp_law_row K) := ⟨f4, _, ok_law_row F4 T , PySem.W.mg_of X G a4, k4, b4⟩
  have y5 : CalleeOf l.prog w K mg base 3 "_law_any_row" ["bag", "many"] (sp_law_any_row K) := ⟨f5, _, ok_law_any_row F5 T y3 y2 y4, PySem.W.mg_of X G a5, k5, b5⟩
  have y6 : CalleeOf l.prog w K mg base 11 "_law_any_tree" ["bag", "many", "clauses", "deep"] (sp_law_any_treeD K) := ⟨f6, _, rec_law_any_tree F6 T y2 y5 (PySem.W.mg_of X G a6) k6 b6 8, PySem.W.mg_of X G a6, k6, b6⟩
  have y7 : CalleeOf l.prog w K mg base 2 "_law_mixed" ["bag", "things"] (sp_law_mixed K) := ⟨f7, _, ok_law_mixed F7 T y2, PySem.W.mg_of X G a7, k7, b7⟩
  have y8 : CalleeOf l.prog w K mg base 12 "_law_lopsided" ["bag", "many", "clauses", "deep"] (sp_law_lopsided K) := ⟨f8, _, ok_law_lopsided F8 T y2 y6 y5 y7, PySem.W.mg_of X G a8, k8, b8⟩
  have y9 : CalleeOf l.prog w K mg base 27 "_law_tree_leaves" ["tree", "lines"] (sp_law_tree_leavesD K) := ⟨f9, _, rec_law_tree_leaves F9 T  (PySem.W.mg_of X G a9) k9 b9 26, PySem.W.mg_of X G a9, k9, b9⟩
  have y10 : CalleeOf l.prog w K mg base 1 "leaves_of" ["tree"] (sp_leaves_of K) := ⟨f10, _, ok_leaves_of F10 T , PySem.W.mg_of X G a10, k10, b10⟩
  have y11 : CalleeOf l.prog w K mg base 1 "_law_alike" ["found", "due"] (sp_law_alike K) := ⟨f11, _, ok_law_alike F11 T , PySem.W.mg_of X G a11, k11, b11⟩
  have y12 : CalleeOf l.prog w K mg base 27 "_law_tree_height" ["tree"] (sp_law_tree_heightD K) := ⟨f12, _, rec_law_tree_height F12 T  (PySem.W.mg_of X G a12) k12 b12 26, PySem.W.mg_of X G a12, k12, b12⟩
  have y13 : CalleeOf l.prog w K mg base 2 "height_of" ["tree"] (sp_height_of K) := ⟨f13, _, ok_height_of F13 T y10, PySem.W.mg_of X G a13, k13, b13⟩
  exact ok_law F14 T y1 y2 y6 y3 y8 y9 y10 y11 y12 y13
end Es
open PySem PySem.W PyProof.Rows
set_option maxHeartbeats 0 in
theorem PySem.Challenge.cw_eithersums_k31_heights_and_leaves_holds : PySem.Challenge.rw_eithersums_k31_heights_and_leaves.Holds := by
  w_on; o_law; k_head; (case hw => w_witness2)
  k_fill
  refine Es.walkG (l := PySem.Challenge.rw_eithersums_k31_heights_and_leaves) (n := 63) (k := 28) (x := "script") (sp := Es.sp_law) rfl (by decide) rfl ⟨rfl, by decide, by decide⟩ (fun w h Y => PySem.W.kIn_of Y) ?F (fun _ _ a ns hl hS => ⟨a, ns, rfl, hS, hl, fun _ => rfl⟩)
  case F =>
    intro w mg fa h KX G hmg
    refine' Es.all_mk KX G hmg ?a1 ?l1 ?c1 ?k1 ?a2 ?l2 ?c2 ?k2 ?a3 ?l3 ?c3 ?k3 ?a4 ?l4 ?c4 ?k4 ?a5 ?l5 ?c5 ?k5 ?a6 ?l6 ?c6 ?k6 ?a7 ?l7 ?c7 ?k7 ?a8 ?l8 ?c8 ?k8 ?a9 ?l9 ?c9 ?k9 ?a10 ?l10 ?c10 ?k10 ?a11 ?l11 ?c11 ?k11 ?a12 ?l12 ?c12 ?k12 ?a13 ?l13 ?c13 ?k13 ?a14 ?l14 ?c14 ?k14 ?z1 ?z2 ?z3 ?z4 ?z5 ?z6 ?z7
    (case a1 => k_is)
    (case l1 => k_is)
    (case c1 => k_is)
    (case k1 => k_is)
    (case a2 => k_is)
    (case l2 => k_is)
    (case c2 => k_is)
    (case k2 => k_is)
    (case a3 => k_is)
    (case l3 => k_is)
    (case c3 => k_is)
    (case k3 => k_is)
    (case a4 => k_is)
    (case l4 => k_is)
    (case c4 => k_is)
    (case k4 => k_is)
    (case a5 => k_is)
    (case l5 => k_is)
    (case c5 => k_is)
    (case k5 => k_is)
    (case a6 => k_is)
    (case l6 => k_is)
    (case c6 => k_is)
    (case k6 => k_is)
    (case a7 => k_is)
    (case l7 => k_is)
    (case c7 => k_is)
    (case k7 => k_is)
    (case a8 => k_is)
    (case l8 => k_is)
    (case c8 => k_is)
    (case k8 => k_is)
    (case a9 => k_is)
    (case l9 => k_is)
    (case c9 => k_is)
    (case k9 => k_is)
    (case a10 => k_is)
    (case l10 => k_is)
    (case c10 => k_is)
    (case k10 => k_is)
    (case a11 => k_is)
    (case l11 => k_is)
    (case c11 => k_is)
    (case k11 => k_is)
    (case a12 => k_is)
    (case l12 => k_is)
    (case c12 => k_is)
    (case k12 => k_is)
    (case a13 => k_is)
    (case l13 => k_is)
    (case c13 => k_is)
    (case k13 => k_is)
    (case a14 => k_is)
    (case l14 => k_is)
    (case c14 => k_is)
    (case k14 => k_is)
    (case z1 => k_is)
    (case z2 => k_is)
    (case z3 => k_is)
    (case z4 => k_is)
    (case z5 => k_is)
    (case z6 => k_is)
    (case z7 => k_is)
