import PyProof.Rows.All
import Wide.All
import OpenK.AllK
import Wide.FinOn
import HandS.Base
import HandS.Call
import HandS.List
import HandS.Exc
import HandS.Lambda
import HandS.Words
import HandS.ExcInit
import HandS.ExcOwn
import KE.KExcIs
import HandS.IsInst
import HandS.EndTab
import HandS.ExcValue
import HandS.Style
import KE.KStateDown
import HandS.Head0
import HandS.Head1
import HandS.Head2
import HandS.HeadEnd
import HandS.HeadHook4
import HandS.NoneIn
import HandS.DictComp
import HandS.Iter
import HandS.OwnEq
import PyProof.InstEq
import PyProof.InstNe
import HandS.Strs
import HandS.TupAny
import HandS.Conv
import HandS.More
import HandS.ForMost
import HandS.Walk
import HandS.WordsExc
import HandS.Deep
import PyProof.P3In
import HandS.Defaults
import HandS.Star
import HandS.SortInts
import HandS.Wide
import HandS.MakeKw
import HandS.MakeKwOnly
import PySem.Challenge.RW_stayopen_k37_orders_and_quarrels_bent
section
set_option Elab.async false
set_option linter.all false
set_option maxRecDepth 100000
set_option maxHeartbeats 4000000
/-! rules of my own over the hand layer: data with dicts, repr of data -/
namespace KZ
open PySem PySem.Spec PyProof.Rows L2

/-- the datum of a key -/
def keyD : Key → PyData
  | .inl i => .int i
  | .inr x => .str x
mutual
/-- v is the datum d, dicts too -/
inductive Dv (K : PySem.W.Frag) (H : Hp) : V → PyData → Prop
  | non : Dv K H .non .none
  | bl (b : Bool) : Dv K H (.bl b) (.bool b)
  | int (i : Int) : Dv K H (.int i) (.int i)
  | str (x : Str) : Dv K H (.str x) (.str x)
  | lst {a : Addr} {xs : List V} {ds : List PyData} : SqL K H a xs → Dvs K H xs ds → Dv K H (.ref a) (.list ds)
  | tup {a : Addr} {xs : List V} {ds : List PyData} : SqT K H a xs → Dvs K H xs ds → Dv K H (.ref a) (.tuple ds)
  | dic {a : Addr} {kvs : List (Key × V)} {ps : List (PyData × PyData)} : Rd H a (.dK kvs) → Dks K H kvs ps → Dv K H (.ref a) (.dict ps)
inductive Dvs (K : PySem.W.Frag) (H : Hp) : List V → List PyData → Prop
  | nil : Dvs K H [] []
  | cons {v : V} {vs : List V} {d : PyData} {ds : List PyData} : Dv K H v d → Dvs K H vs ds → Dvs K H (v :: vs) (d :: ds)
inductive Dks (K : PySem.W.Frag) (H : Hp) : List (Key × V) → List (PyData × PyData) → Prop
  | nil : Dks K H [] []
  | cons {k : Key} {v : V} {kvs : List (Key × V)} {d : PyData} {ps : List (PyData × PyData)} : Dv K H v d → Dks K H kvs ps → Dks K H ((k, v) :: kvs) ((keyD k, d) :: ps)
end

section
variable {X : Cx} {pins : List (Addr × Obj)} {σ : L2.St} {H : Hp} {s : Shared}
def ModsD (h : Heap) : Prop := ∃ o es ep, h.get? sysModules = some o ∧ o.data = .dict es ep
theorem keyD_reads {w : World} {P : Program} {h : Heap} (k : Key) (key : Value) (e : (mixKind P w).is k key = true) : Reads h key (keyD k) [] := by
  rcases keyIs_shape (k := k) (v := key) e with ⟨i, t, rfl, rfl⟩ | ⟨x, t, rfl, rfl⟩
  · exact Reads.int i t
  · exact Reads.str x t
mutual
theorem Dv.reads (I : Inv X pins σ H s) (hm : ModsD s.heap) : ∀ (d : PyData) (v : V) (u : Value), Dv X.K H v d → RelV v u → ∃ as, Reads s.heap u d as ∧ sysModules ∉ as
  | .none, _, _, h, r => by
    cases h; cases r
    exact ⟨_, Reads.none, by simp⟩
  | .bool b, _, _, h, r => by
    cases h; cases r
    exact ⟨_, Reads.bool b, by simp⟩
  | .int i, _, _, h, r => by
    cases h
    obtain ⟨t, rfl⟩ := r
    exact ⟨_, Reads.int i t, by simp⟩
  | .str x, _, _, h, r => by
    cases h
    obtain ⟨t, rfl⟩ := r
    exact ⟨_, Reads.str x t, by simp⟩
  | .list ds, _, _, h, r => by
    cases h with
    | lst hs ha =>
      cases r
      obtain ⟨its, rv, ⟨o, n, ho, hc, _, hd⟩, _⟩ := I.list hs
      obtain ⟨as, hr, na⟩ := Dv.readsAll I hm ds _ its ha rv
      refine ⟨_, Reads.list ho hc hd hr, fun hmem => ?_⟩
      rcases List.mem_cons.mp hmem with z | z
      · obtain ⟨om, es, ep, hg, hq⟩ := hm
        rw [z, ho] at hg
        cases hg
        rw [hd] at hq
        cases hq
      · exact na z
  | .tuple ds, _, _, h, r => by
    cases h with
    | tup hs ha =>
      cases r
      obtain ⟨its, rv, ⟨o, ho, hc, n, hd⟩, _⟩ := I.tuple hs
      obtain ⟨as, hr, na⟩ := Dv.readsAll I hm ds _ its ha rv
      exact ⟨_, Reads.tuple ho hc hd hr, na⟩
  | .dict ps, _, _, h, r => by
    cases h with
    | dic hs ha =>
      cases r
      obtain ⟨_, hne, vs, kv, hD⟩ := hs.ok I.hok
      obtain ⟨as, hr, na⟩ := Dv.readsKv I hm ps _ vs ha kv
      refine ⟨_, PyProof.V.reads_dictOf (enc := keyD) (fun k key e => keyD_reads k key e) hD hr, fun hmem => ?_⟩
      rcases List.mem_cons.mp hmem with z | z
      · rw [← z] at hne
        simp at hne
      · exact na z
theorem Dv.readsAll (I : Inv X pins σ H s) (hm : ModsD s.heap) : ∀ (ds : List PyData) (vs : List V) (us : List Value), Dvs X.K H vs ds → Vals vs us → ∃ as, ReadsAll s.heap us ds as ∧ sysModules ∉ as
  | [], _, _, h, r => by
    cases h; cases r
    exact ⟨_, ReadsAll.nil, by simp⟩
  | d :: ds, _, _, h, r => by
    cases h with
    | cons h1 h2 =>
      cases r with
      | cons r1 r2 =>
        obtain ⟨as, q1, n1⟩ := Dv.reads I hm d _ _ h1 r1
        obtain ⟨bs, q2, n2⟩ := Dv.readsAll I hm ds _ _ h2 r2
        exact ⟨_, ReadsAll.cons q1 q2, fun z => (List.mem_append.mp z).elim n1 n2⟩
theorem Dv.readsKv (I : Inv X pins σ H s) (hm : ModsD s.heap) : ∀ (ps : List (PyData × PyData)) (kvs : List (Key × V)) (us : List (Key × Value)), Dks X.K H kvs ps → KV kvs us → ∃ as, PyProof.V.PairsRead s.heap keyD us ps as ∧ sysModules ∉ as
  | [], _, _, h, r => by
    cases h; cases r
    exact ⟨_, PyProof.V.PairsRead.nil, by simp⟩
  | _ :: ps, _, _, h, r => by
    cases h with
    | cons h1 h2 =>
      cases r with
      | @cons _ q _ _ r1 r2 =>
        obtain ⟨qk, qv⟩ := q
        obtain ⟨e1, r1⟩ := r1
        obtain rfl : _ = qk := e1
        obtain ⟨as, q1, n1⟩ := Dv.reads I hm _ _ _ h1 r1
        obtain ⟨bs, q2, n2⟩ := Dv.readsKv I hm ps _ _ h2 r2
        exact ⟨_, PyProof.V.PairsRead.cons q1 q2, fun z => (List.mem_append.mp z).elim n1 n2⟩
end

/-- what base says of the modules' dict, for every state -/
theorem modsD_of (hb : ModsD X.base) (I : Inv X pins σ H s) : ModsD s.heap :=
  let ⟨o, es, ep, h1, h2⟩ := hb
  ⟨o, es, ep, I.bk _ _ h1, h2⟩

/-- repr(x) of data, no repr being under way -/
def rRepr (K : PySem.W.Frag) : List V → Hp → VK → Prop := fun xs H Q => ∃ (v : V) (d : PyData), xs = [v] ∧ Dv K H v d ∧ d.showable = true ∧ d.shown.length ≤ 10000 ∧ d.depth ≤ 40 ∧ Q (.str d.shown) H
theorem call_reprD (hg : X.A.guards = some []) (hu : X.A.units + 64 < cLine) (hb : ModsD X.base) : CallR X (.builtin "repr") (rRepr X.K) := by
  intro pins s σ H xs us Q I r h
  obtain ⟨v, d, rfl, hd, hs, hl, hdp, q⟩ := h
  obtain ⟨u, rfl, r1⟩ := vals1 r
  obtain ⟨as, hr, na⟩ := Dv.reads I (modsD_of hb I) d v u hd r1
  have hz : d.shown.length ≤ sizeLine := Nat.le_trans hl (by decide)
  cases hd with
  | non =>
    cases r1
    exact PySem.P.repr_of_none ⟨.str _, H, I.tok _, ⟨_, rfl⟩, q⟩
  | bl b =>
    cases r1
    refine PySem.P.repr_of_bool ⟨.str _, H, I.tok _, ⟨_, rfl⟩, ?_⟩
    cases b <;> exact q
  | int i =>
    obtain ⟨t, rfl⟩ := r1
    exact PySem.P.repr_of_int (by simpa [PyData.showable] using hs) ⟨.str _, H, I.tok _, ⟨_, rfl⟩, q⟩
  | str x =>
    obtain ⟨t, rfl⟩ := r1
    exact PySem.P.repr_of_str ⟨.str _, H, I.tok _, ⟨_, rfl⟩, q⟩ (by simpa only [PyData.shown] using hz)
  | lst h1 h2 =>
    cases r1
    exact repr_of_reads' hr hs (fun _ => na) hg (by omega) (fun _ _ e => e) (fun h' u tk hk => ⟨.str _, H, I.kept hk, ⟨_, rfl⟩, q⟩) hz
  | tup h1 h2 =>
    cases r1
    exact repr_of_reads' hr hs (fun _ => na) hg (by omega) (fun _ _ e => e) (fun h' u tk hk => ⟨.str _, H, I.kept hk, ⟨_, rfl⟩, q⟩) hz
  | dic h1 h2 =>
    cases r1
    exact repr_of_reads' hr hs (fun _ => na) hg (by omega) (fun _ _ e => e) (fun h' u tk hk => ⟨.str _, H, I.kept hk, ⟨_, rfl⟩, q⟩) hz
end
end KZ
end

section
set_option Elab.async false
set_option linter.all false
set_option maxRecDepth 100000
set_option maxHeartbeats 4000000
/-! promises of defs that hold where no repr is under way -/
namespace KZ
open PySem PySem.Spec PyProof.Rows L2

structure FnG (P : Program) (w : World) (K : PySem.W.Frag) (mg : Str → Option Value) (base : Heap) (cx : CXT) (k : Nat) (f : Addr) (fd : FuncData) (ps : List Str) (sp : Sp) : Prop where
  len : ∀ vs H Q E, sp vs H Q E → vs.length = ps.length
  runG : ∀ (A : Around) (out : List Env) (s : Shared) (H : Hp) (ar : Args) (us : List Value) (vs : List V) (Q : VK) (E : XK), A.guards = some [] → Room k A → Env0 P w K mg base A out s H → BindsTo s fd ar (ps.zip us) → Vals vs us → sp vs H Q E →
    codeAny (model P w) A (.call (.ref f) ar) (CR cx out P w H s Q E) s
theorem FnG.ofOk {P : Program} {w : World} {K : PySem.W.Frag} {mg : Str → Option Value} {base : Heap} {cx : CXT} {k : Nat} {f : Addr} {fd : FuncData} {ps : List Str} {sp : Sp} (F : FnOk P w K mg base cx k f fd ps sp) : FnG P w K mg base cx k f fd ps sp :=
  ⟨F.len, fun A out s H ar us vs Q E _ hr he hb hv hs => F.run A out s H ar us vs Q E hr he hb hv hs⟩
theorem FnG.mono {P : Program} {w : World} {K : PySem.W.Frag} {mg : Str → Option Value} {base : Heap} {cx : CXT} {j k : Nat} {f : Addr} {fd : FuncData} {ps : List Str} {sp : Sp} (F : FnG P w K mg base cx j f fd ps sp) (h : j ≤ k) : FnG P w K mg base cx k f fd ps sp :=
  ⟨F.len, fun A out s H ar us vs Q E hg hr he hb hv hs => F.runG A out s H ar us vs Q E hg (hr.mono h) he hb hv hs⟩

section
variable {X : Cx} {cx : CXT} {k : Nat} {f : Addr} {fd : FuncData} {ps : List Str} {sp : Sp} {dvs : List V} {ds : List Value} {E : XK} {x : Str} {p pos : Pos} {e : Expr} {es : List Expr} {t : TA}
theorem run_fnG {pins : List (Addr × Obj)} {σ : L2.St} {H : Hp} {s : Shared} {Q : VK} {us : List Value} {vs : List V} (F : FnG X.prog X.w X.K X.mg X.base cx k f fd ps sp) (hgd : X.A.guards = some []) (hr : Room k X.A) (hb : Binds X.K fd ps ds)
    (hd : Vals dvs ds) (hx : Passes cx X E) (I : Inv X pins σ H s) (r : Vals vs us) (h : sp (vs ++ dvs) H Q E) : wpAny (model X.prog X.w) X.A (call (.ref f) us) (EP X pins σ Q) X.xe s := by
  have rr : Vals (vs ++ dvs) (us ++ ds) := r.append hd
  have hl : (us ++ ds).length = ps.length := by rw [← rr.length]; exact F.len _ _ _ _ h
  refine wpAny_call (codeAny_mono (F.runG X.A X.stack s H ⟨us, []⟩ (us ++ ds) (vs ++ dvs) Q E hgd hr I.env0 (hb s us I.kIn hl) rr h) fun r s' hq => ?_)
  rcases r with er | fl
  · exact hx pins σ H s er s' I hq
  · cases fl with
    | ret u => exact I.after hq
    | _ => exact False.elim hq
theorem pe_callG (F : FnG X.prog X.w X.K X.mg X.base cx k f fd ps sp) (hgd : X.A.guards = some []) (hr : Room k X.A) (hg : Gl X x) (hm : X.mg x = some (.ref f)) (hk : PySem.W.keepIn X.K (.ref f) = true) (hb : Binds X.K fd ps ds) (hd : Vals dvs ds) (hx : Passes cx X E)
    (ha : PA X (e :: es) t) (hdb : (x == ("__debug__" : Str)) = false := by decide) (he : starEach (e :: es) X.env = (false, eval e X.env) :: starEach es X.env := by rfl) (hpl : (backTo pos (starEach es X.env)).any (·.1) = false := by rfl) :
    PE X (.Call (.Name x p) (e :: es) [] pos) (tCall sp dvs E t) :=
  ⟨fun pins s σ H Q I h => wpAny_Call_Name_kw (ld_glob I hg hm (PySem.W.callWith_K (h₀ := X.base) I.ok.mod.kin hk (thn (ha.run pos pins s σ H _ I h) fun us s1 ⟨vs, H1, I1, r, q⟩ =>
    ⟨I1.kIn, run_fnG F hgd hr hb hd hx I1 r q⟩) he hpl) hdb)⟩
end

/-- a def, its body walked where no repr is under way -/
theorem okG {P : Program} {w : World} {K : PySem.W.Frag} {mg : Str → Option Value} {base : Heap} {x qual : Str} {st : Stmt} {f : Addr} {fd : FuncData} {N ps : List Str} {k : Nat} {sp : Sp} (F : Fun K x qual st f fd) (S : FnScope N ps (defScope st))
    (len : ∀ vs H Q E, sp vs H Q E → vs.length = ps.length)
    (hbody : ∀ (cdv : Value) (A : Around) (out : List Env) (s : Shared) (H : Hp) (vs : List V) (Q : VK) (E : XK), A.guards = some [] → Room k (A.deeper (envOfC qual (defScope st) s.heap.objs.size f cdv)) → sp vs H Q E →
      ∃ t, PSs (cxOf CX0 P w K mg base N qual (defScope st) f cdv A out s H E).nox (defBody st) t ∧ t { nx := fun _ H' => Q .non H', rt := Q } (start N vs) H) : FnG P w K mg base CX0 (k + 1) f fd ps sp := by
  obtain ⟨oc, od, kV, doc, pm, an, cdv, ct, osl, rfl, lk, hcd⟩ := F.ex
  refine ⟨len, fun A out s H ar us vs Q E hgd hr e0 hb r hsp => LamX.run_ofS (N := N) lk hcd S hr e0 hb r (len _ _ _ _ hsp) fun hr' => ?_⟩
  obtain ⟨t, ht, q⟩ := hbody cdv A out s H vs Q E hgd hr' hsp
  exact ⟨t, ht.nox, q⟩
end KZ
end

section
set_option Elab.async false
set_option linter.all false
set_option maxRecDepth 100000
set_option maxHeartbeats 4000000
/-! errors of the program's own as values: made, read, kept behind a try -/
namespace KZ
open PySem PySem.Spec PyProof.Rows L2

/-- at a: an exception of the class at C, its dict d -/
def EXO (C a : Addr) (d : Option Addr) : HO := .ext fun h => ∃ (oe : Obj) (vs : Array Value), h.get? a = some oe ∧ Zc (.ref C) d oe ∧ oe.data = .fields vs
theorem exo_okE {P : Program} {w : World} {H : Hp} {h : Heap} {C a : Addr} {d : Option Addr} {oe : Obj} {vs : Array Value} (e : h.get? a = some oe) (z : Zc (.ref C) d oe) (f : oe.data = .fields vs) : ObjOk P w H h a (EXO C a d) :=
  ⟨⟨oe, vs, e, z, f⟩, ⟨oe, e⟩, fun _ _ ⟨o, v, q, r⟩ k => ⟨o, v, k o q, r⟩⟩
theorem EXO.get {P : Program} {w : World} {H : Hp} {h : Heap} {C a : Addr} {d : Option Addr} (ok : HOk P w H h) (e : H a = some (EXO C a d)) : ∃ (oe : Obj) (vs : Array Value), h.get? a = some oe ∧ Zc (.ref C) d oe ∧ oe.data = .fields vs := by
  have x : ObjOk P w H h a (.ext fun h => ∃ (oe : Obj) (vs : Array Value), h.get? a = some oe ∧ Zc (.ref C) d oe ∧ oe.data = .fields vs) := ok a _ e
  exact x.1
/-- at dd: the dict of an exception -/
def XD (H : Hp) (dd : Addr) (fs : List (Str × V)) : Prop := H dd = some (exd dd fs) ∨ H dd = some (.xd fs)
theorem XD.get {P : Program} {w : World} {H : Hp} {h : Heap} {dd : Addr} {fs : List (Str × V)} (ok : HOk P w H h) (e : XD H dd fs) : ∃ mA, h.Ns1 dd mA ∧ ∀ f, RelO (fs.lookup f) (mA f) := by
  rcases e with e | e
  · exact exd_at ok e
  · exact ok dd _ e
/-- what the written part says of such a class -/
structure ExcT (K : PySem.W.Frag) (C : Addr) : Prop where
  ga : PySem.W.findIn K (.ref C) "__getattribute__" = some (some (.builtin "BaseException.__getattribute__"))
  gg : PySem.W.findIn K (.ref C) "__getattr__" = some none
  be : PySem.W.subIn K (.ref C) (.type "BaseException") = some true
  hd : PySem.W.hasDictIn K C = true
  kl : PySem.W.findIn K (.ref C) "__class__" = some (some (.builtin "object.__class__"))
  ge : PySem.W.specialIn K (.builtin "object.__class__") "__get__" = some (some (.builtin "getset_descriptor.__get__"))
  tk : PySem.W.takesIn K (.builtin "object.__class__") = some true
  mo : PySem.W.mroIn K C (.type "object") = some true
section
variable {X : Cx} {pins : List (Addr × Obj)} {σ : L2.St} {H : Hp} {s : Shared}
theorem inst_of {C a dd : Addr} {fs : List (Str × V)} (I : Inv X pins σ H s) (e : H a = some (EXO C a (some dd))) (ed : XD H dd fs) :
    ∃ (oe od : Obj) (mA : Str → Option Value), PySem.W.InstAt s.heap a oe C (some od) ∧ (∀ n, PySem.W.lookIn n od = some (mA n)) ∧ ∀ f, RelO (fs.lookup f) (mA f) := by
  obtain ⟨oe, vs, ha, hz, hd⟩ := EXO.get I.hok e
  obtain ⟨mA, hns, rel⟩ := ed.get I.hok
  obtain ⟨od, ho, hl⟩ := lookIn_ns hns
  exact ⟨oe, od, mA, ⟨ha, hz.1, by unfold PySem.W.notCls; rw [hd] <;> rfl, by rw [hz.2]; exact ho⟩, hl, rel⟩
/-- e.n, e an error of the program's own -/
def tEf (K : PySem.W.Frag) (n : Str) (te : TE) : TE := fun σ H Q => te σ H fun x H1 => ∃ (a C dd : Addr) (fs : List (Str × V)) (v : V), x = .ref a ∧ ExcT K C ∧ PySem.W.findIn K (.ref C) n = some none ∧ H1 a = some (EXO C a (some dd)) ∧ XD H1 dd fs ∧ fs.lookup n = some v ∧ Q v H1
theorem pe_ef {e : Expr} {te : TE} {pos : Pos} {n : Str} (he : PE X e te) (hb : attributeBase e n X.env (eval e X.env) = eval e X.env := by rfl) : PE X (.Attribute e n pos) (tEf X.K n te) := by
  refine ⟨fun pins s σ H Q I h => attr_of hb (thn (he.run pins s σ H _ I h) fun u s1 hh => ?_)⟩
  obtain ⟨x, H1, I1, rx, a, C, dd, fs, v, ex, T, hno, ea, ed, l, q⟩ := hh
  subst ex
  obtain rfl : u = Value.ref a := rx
  obtain ⟨oe, od, mA, J, hl, hr⟩ := inst_of I1 ea ed
  obtain ⟨z, hz, rz⟩ := RelO.some_of (v := v) (o := mA n) (by rw [← l]; exact hr n)
  exact HandSPX.exc_get I1.kIn J T.ga T.gg T.be (PySem.W.findObj_own T.hd hno rfl (by rw [hl, hz])) (handed_of rz) ⟨v, H1, I1.tok _, rz, q⟩

/-- C(e, ..) as a value: a new error -/
def tOexV (C : Addr) (sp : Sp) (dvs : List V) (ta : TA) : TE := fun σ H Q => ta σ H fun vs H1 => vs.length ≤ 1000 ∧ ∀ a, H1 a = none → sp (.ref a :: (vs ++ dvs)) (upd H1 a (exo a C none))
  (fun v H2 => v = .non ∧ ∃ d, H2 a = some (exo a C (some d)) ∧ Q (.ref a) (upd H2 a (EXO C a (some d)))) (fun _ _ _ => False)
theorem retrack {C a d : Addr} (I : Inv X pins σ H s) (e : H a = some (exo a C (some d))) : Inv X pins σ (upd H a (EXO C a (some d))) s := by
  obtain ⟨t1, ha⟩ := exo_at I.hok e
  have J := I.write (t' := s.toks) (h' := s.heap) (x := a) (e := a) (o := EXO C a (some d)) (by rw [e]; exact True.intro) (.inl rfl) (fun _ _ _ q => q) ⟨_, ha⟩ (exo_okE ha ⟨rfl, rfl⟩ rfl)
  exact J
theorem pe_oex {cx : CXT} {x : Str} {C fI : Addr} {k : Nat} {fd : FuncData} {ps : List Str} {sp : Sp} {ds : List Value} {dvs : List V} {e : Expr} {es : List Expr} {ta : TA} {p pos : Pos} (T : OexC X.K C) (iC : PySem.W.findIn X.K (.ref C) "__init__" = some (some (.ref fI)))
    (tI : PySem.W.typeIn X.K (.ref fI) = some (.type "function")) (F1 : FnOk X.prog X.w X.K X.mg X.base cx k fI fd ps sp) (hr : Room (k + 1) X.A) (hb : Binds X.K fd ps ds) (hd : Vals dvs ds) (hx : Passes cx X (fun _ _ _ => False)) (hg : Gl X x)
    (hm : X.mg x = some (.ref C)) (ha : PA X (e :: es) ta) (hdb : (x == ("__debug__" : Str)) = false := by decide) (he : starEach (e :: es) X.env = (false, eval e X.env) :: starEach es X.env := by rfl) (hpl : (backTo pos (starEach es X.env)).any (·.1) = false := by rfl) :
    PE X (.Call (.Name x p) (e :: es) [] pos) (tOexV C sp dvs ta) := by
  refine ⟨fun pins s σ H Q I h => ?_⟩
  obtain ⟨nm, q, N, bs, bm, sn, sub, ab, col, dd, k0, k1, k2, k3, k5, hC, hbm⟩ := T.cls
  refine wpAny_Call_Name_kw (ld_glob I hg hm ?_ hdb)
  refine PySem.W.callWith_K (h₀ := X.base) I.ok.mod.kin T.kC (thn (ha.run pos pins s σ H _ I h) fun us s1 ⟨vs, H1, I1, r1, hz, q1⟩ => ⟨I1.kIn, ?_⟩) he hpl
  show wpAny _ _ (call (.ref C) us) _ _ _
  obtain ⟨hp, g, dr, tk, os⟩ := s1
  obtain ⟨a, hA⟩ : ∃ a, a = hp.objs.size + 1 := ⟨_, rfl⟩
  have hsz : hp.objs.size ≤ a := by rw [hA]; exact Nat.le_succ _
  have hq := q1 a (I1.hok.fresh hsz)
  have kk : ∀ b o, hp.get? b = some o → ((hp.push (PySem.W.kdv_tup us)).push (PySem.HandSPX.excO C hp.objs.size)).get? b = some o := fun b o e => Heap.get?_push_of_some _ (Heap.get?_push_of_some _ e)
  have hget : ((hp.push (PySem.W.kdv_tup us)).push (PySem.HandSPX.excO C hp.objs.size)).get? a = some (PySem.HandSPX.excO C hp.objs.size) := by rw [hA]; heap_get
  have I2 : Inv X pins σ (upd H1 a (exo a C none)) ⟨(hp.push (PySem.W.kdv_tup us)).push (PySem.HandSPX.excO C hp.objs.size), g, dr, tk, os⟩ :=
    I1.laid (t' := tk) (a := a) (o := exo a C none) (h' := (hp.push (PySem.W.kdv_tup us)).push (PySem.HandSPX.excO C hp.objs.size)) kk hsz (exo_ok hget)
  have r2 : Vals (V.ref a :: (vs ++ dvs)) (Value.ref a :: (us ++ ds)) := .cons rfl (r1.append hd)
  have hl : (Value.ref a :: us ++ ds).length = ps.length := by
    have e := r2.length
    rw [F1.len _ _ _ _ hq] at e
    exact e.symm
  have hus : us.length ≤ sizeLine := by
    rw [← Paired.length r1, sizeLine_eq]
    omega
  have core := F1.run _ X.stack _ _ ⟨Value.ref a :: us, []⟩ (Value.ref a :: (us ++ ds)) _ _ (fun _ _ _ => False) (hr.make C us []) (I2.env0.make C us []) (hb _ (Value.ref a :: us) I2.kIn hl) r2 hq
  rw [hA] at core
  refine wpAny_call (PySem.HandSPX.call_own F.excBase_ValueError (fun Y => PySem.HandSPX.refsVE_contains Y bm hbm) (I1.kIn _ _ hC) (PySem.W.looks_findIn I1.kIn iC) (fun self => PySem.W.bind_fn I1.kIn self tI) hus (codeAny_mono core fun r s' hq' => ?_))
  rw [← hA] at hq' ⊢
  cases r with
  | error er => exact hx pins σ _ _ er s' I2 hq'
  | ok fl =>
    cases fl with
    | ret u =>
      obtain ⟨v, H2, os2, bare2, un2, hok2, rv, ev, d, ea, q2⟩ := hq'
      subst ev
      have J : Inv X pins σ H2 s' := I2.call' (ch := []) os2 un2 hok2 bare2 (fun _ z => nomatch z)
      exact ⟨rv, .ref a, _, retrack J ea, rfl, q2⟩
    | next => exact False.elim hq'
    | brk => exact False.elim hq'
    | cont => exact False.elim hq'
end
end KZ
end

section
set_option Elab.async false
set_option linter.all false
set_option maxRecDepth 100000
set_option maxHeartbeats 4000000
/-! a caught error that is kept: try: .. except x as n: m = n -/
namespace KZ
open PySem PySem.Spec PyProof.Rows L2
section
variable {X : Cx} {pins : List (Addr × Obj)} {σ : L2.St} {H : Hp} {s : Shared}
/-- an object of ours that isn't tracked yet, an error, is tracked from here on -/
theorem track {a C : Addr} {d : Option Addr} {oe : Obj} {vs : Array Value} (I : Inv X pins σ H s) (ha : s.heap.get? a = some oe) (hz : Zc (.ref C) d oe) (hd : oe.data = .fields vs) (na : H a = none)
    (n0 : X.s_0.heap.get? a = none) (np : ∀ p ∈ X.pn ++ pins, p.1 ≠ a) (nL : a ≠ X.env.locals) : Inv X pins σ (upd H a (EXO C a d)) s := by
  have nea : ∀ {b : Addr} {o : HO}, H b = some o → b ≠ a := fun {b o} q => ne_of_none q na
  have ne0 : ∀ {b : Addr} {o : Obj}, X.s_0.heap.get? b = some o → b ≠ a := fun {b o} q z => by
    rw [z, n0] at q
    cases q
  refine ⟨I.ok, I.os, I.bare, ⟨I.base.keep, I.base.slot, fun b o q n hb => ?_, I.base.there, fun b xs q => ?_, fun b o u q => ?_, fun b ps q => ?_⟩, I.loc, I.cell, ?_, fun x c e => ?_, fun p hp => ?_, fun b o q => ?_, I.len⟩
  · rw [upd_ne (ne0 q)]
    exact I.base.free b o q n hb
  · have z := I.base.tups b xs q
    rw [upd_ne (nea z)]
    exact z
  · have z := I.base.frzs b o u q
    rw [upd_ne (nea z)]
    exact z
  · obtain ⟨m, z⟩ := I.base.tbls b ps q
    exact ⟨m, by rw [upd_ne (nea z)]; exact z⟩
  · rw [upd_ne (Ne.symm nL)]
    exact I.free
  · obtain ⟨v, oc, ho, hc⟩ := I.cell x c e
    have nc : c ≠ a := fun z => by
      rw [z, ha] at ho
      cases ho
      rw [hd] at hc
      cases hc
    rw [upd_ne nc]
    exact I.freeC x c e
  · obtain ⟨h1, h2, h3⟩ := I.pin p hp
    exact ⟨h1, by rw [upd_ne (np p hp)]; exact h2, h3⟩
  · by_cases hb : b = a
    · subst hb
      rw [upd_same] at q
      cases q
      exact exo_okE ha hz hd
    · rw [upd_ne hb] at q
      exact (I.hok b o q).stay (fun _ _ _ z => z) (fun c z => by rw [upd_ne (nea z)]; exact z) fun c xs z => by rw [upd_ne (nea z)]; exact z

/-- what the clause wishes of an error of the body: n is slot i, m slot j -/
def wKeep (K : PySem.W.Frag) (c : Value) (i j : Nat) (Wo : WX) (D : Ends) : WX := fun cls d σ H =>
  ∃ C, cls = .ref C ∧ ∃ b, PySem.W.exmOne K cls c = some b ∧ (b = true → ∀ a, H a = none → D.nx (((σ.set i (some (.ref a))).set j (some (.ref a))).set i none) (upd H a (EXO C a d))) ∧ (b = false → Wo cls d σ H)
variable {x n m : Str} {c : Value} {i j : Nat} {body : List Stmt} {np np2 mp ap pos pos' : Pos} {tb : WX → TS} {Wo : WX}
theorem ps_try_keep (hs : X.stack = X.env :: X.outer) (hf : X.env.frame = some X.env.locals) (hex : X.ex = []) (hN : X.N.Nodup) (hi : X.N[i]? = some n) (hln : X.env.kindOf n = some .local) (hj : X.N[j]? = some m) (hlm : X.env.kindOf m = some .local)
    (hc : Names X x c) (tk : Takes X Wo) (hsw : swapsWith (.Name n np2) (some (.Name m mp)) ap.line X.env = pure false) (hdn : (n == ("__debug__" : Str)) = false) (hcn : (n == ("__classdict__" : Str)) = false)
    (hb : ∀ (W : WX) (pn : List (Addr × Obj)) (xe : Value → Shared → Prop), Takes (X.tr pn xe) W → PassesOwn (model X.prog X.w) X.A X.env xe → PSs (X.tr pn xe) body (tb W)) :
    PS X (.Try body [.ExceptHandler (some (.Name x np)) (some n) [.Assign [.Name m mp] (.Name n np2) ap] pos'] [] [] pos) (fun D σ H => tb (wKeep X.K c i j Wo D) D σ H) := by
  refine ⟨fun pins s σ H D I h => ?_⟩
  have ok0 := I.ok
  have hfr : X.A.frames = some (X.env :: X.outer) := ok0.frames.trans (congrArg some hs)
  refine wpAny_Try_except ?_
  let Wl := wKeep X.K c i j Wo D
  let hd1 : ExceptHandler := .ExceptHandler (some (.Name x np)) (some n) [.Assign [.Name m mp] (.Name n np2) ap] pos'
  refine wpAny_mono ((hb Wl (X.pn ++ pins) (fun e s₁ => wpAny (model X.prog X.w) X.A (noteFrame e X.env) (fun _ s₂ => wpAny (model X.prog X.w) X.A (setFlight e none) (fun _ s₃ => wpAny (model X.prog X.w) X.A (handleBy e X.env [hd1]) (SP X pins D) X.xe s₃) X.xe s₂) X.xe s₁)
    (fun u s' xx => ?_) PassesOwn.looking).run [] s σ H D (I.toTry _) h) (fun f s1 hsp => ?_) (fun e s1 he => he)
  · obtain ⟨a, B, sI, pins', σ', H', cls, d, rfl, J', nb, up, sky, na, os, ag, C, rfl, b, hb1, hyes, hno⟩ := xx
    have J : Inv X pins σ' H' sI := J'.ofTry ok0
    have sky' : Sky B (X.env :: X.outer) a (Zc (.ref C) d) X.env.locals s'.heap := hs ▸ sky
    show wpAny (model X.prog X.w) X.A (noteFrame (.ref a) X.env) _ _ _
    refine Sky.land Zc.steady hfr hf sky' fun h3 fl3 up3 => ?_
    have J3 : Inv X pins σ' H' { s' with heap := h3 } := J.landed nb fl3.1 (up.trans up3) os ag
    obtain ⟨oe3, vs3, he3, hz3, hd3⟩ := fl3.there
    have nfr : a ∉ frs (X.env :: X.outer) := fun hm => by
      obtain ⟨_, o', e', hnf⟩ := fl3.2.2.1.mem hm
      rw [he3] at e'
      cases e'
      exact hnf _ hd3
    have nL : a ≠ X.env.locals := fun z => nfr (List.mem_filterMap.mpr ⟨X.env, List.mem_cons_self, by rw [hf, z]⟩)
    have nF : a ∉ X.fs := fun hm => by
      obtain ⟨ev, hev, q⟩ := List.mem_filterMap.mp hm
      exact nfr (List.mem_filterMap.mpr ⟨ev, List.mem_cons_of_mem _ hev, q⟩)
    have nst : a ∉ frs X.stack := by rw [hs]; exact nfr
    have nB : B.get? a = none := fl3.2.1
    have nI : sI.heap.get? a = none := by
      cases q : sI.heap.get? a with
      | none => rfl
      | some o =>
        have z := nb a o q nst
        rw [nB] at z
        cases z
    have n0 : X.s_0.heap.get? a = none := by
      cases q : X.s_0.heap.get? a with
      | none => rfl
      | some o =>
        obtain ⟨o', z⟩ := J.base.there a o q (by rw [hex]; exact fun z => nomatch z)
        rw [nI] at z
        cases z
    have npin : ∀ p ∈ X.pn ++ pins, p.1 ≠ a := fun p hp z => by
      have q := (J.pin p hp).1
      rw [z, nI] at q
      cases q
    have S3 := J3.suite he3 hd3 na nL nF
    refine wpAny_handleBy_cons (codeAny_handlers_test ?_) (by intro q; cases q)
    have LT : PySem.W.Looks (model X.prog X.w) h3 (typeOf (.ref a)) (.ref C) := fun A Q E s k q => wpAny_typeOf_ref (k _ _ he3) (by rw [hz3.1]; exact q)
    have LM := PySem.W.exm_one (M := model X.prog X.w) (J3.kIn) LT hb1
    have test : ∀ {Q : Value → Shared → Prop} {E : Value → Shared → Prop}, Q c { s' with heap := h3 } → wpAny (model X.prog X.w) (X.A.mark (some (.ref a))) (eval (.Name x np) X.env) Q E { s' with heap := h3 } := fun {Q E} q => by
      rcases hc with ⟨hg, hdbg, hm' | ⟨hm', hv, hnn⟩⟩
      · exact ld_glob (X := X.suite a ((a, oe3) :: (X.pn ++ pins))) S3 hg hm' q hdbg
      · exact ld_blt (X := X.suite a ((a, oe3) :: (X.pn ++ pins))) S3 hg hm' hv q hnn hdbg
    refine test (LM.here ?_)
    cases b with
    | true =>
      refine codeAny_handlers_suite_as (HandSPX.lands_againZ fl3 fun h4 fl4 up4 => ?_)
      have J4 : Inv X pins σ' H' { s' with heap := h4 } := J.landed nb fl4.1 ((up.trans up3).trans up4) os ag
      obtain ⟨oe4, vs4, he4, hz4, hd4⟩ := fl4.there
      have S4 := J4.suite he4 hd4 na nL nF
      have hi' : i < σ'.length := by rw [J4.len]; exact (List.getElem?_eq_some_iff.mp hi).1
      refine store_ok (X := X.suite a ((a, oe4) :: (X.pn ++ pins))) (v := .ref a) S4 hN hi (.inl hln) rfl (fun s5 S5 => ?_) (.inr hln)
      have R := pss_one (X := X.suite a ((a, oe4) :: (X.pn ++ pins))) (ps_asg (X := X.suite a ((a, oe4) :: (X.pn ++ pins))) (pos := ap) (pe_var (i := i) (pos := np2) hi (.inl hln) hdn hcn) (pg_name (i := j) (pos := mp) hN hj (.inl hlm) (.inr hlm)) hsw)
      let D' : Ends := { nx := fun σ6 H6 => σ6 = (σ'.set i (some (.ref a))).set j (some (.ref a)) ∧ H6 = H', rt := fun _ _ => False }
      refine wpAny_mono (R.run [] s5 _ H' D' S5 ?_) (fun f s6 hsp => ?_) (fun _ _ z => False.elim z)
      · exact ⟨.ref a, List.getElem?_set_self hi', rfl, rfl⟩
      · cases f with
        | next =>
          obtain ⟨σ6, H6, S6, rfl, rfl⟩ := hsp
          have he6 := (S6.pin (a, oe4) (List.mem_append_left _ List.mem_cons_self)).1
          have T6 := track (S6.unsuite ok0) he6 hz4 hd4 na n0 npin nL
          exact gone_ok T6 hN hi hln fun s7 J7 => ⟨_, _, J7, hyes rfl a na⟩
        | brk => obtain ⟨_, _, _, z⟩ := hsp; exact z.elim
        | cont => obtain ⟨_, _, _, z⟩ := hsp; exact z.elim
        | ret u => obtain ⟨_, _, _, _, _, z⟩ := hsp; exact z.elim
    | false =>
      show wpAny _ X.A (handleBy (.ref a) X.env []) _ _ _
      refine wpAny_handleBy_nil ?_
      obtain ⟨k1, k2, k3, oe, vs, T, oT, ts', he, hz, hd, h1, hr⟩ := id fl3
      unfold PySem.passOn
      refine wpAny_bind (wpAny_field he hd h1 ?_)
      rw [if_neg (show ¬ ((Value.ref T == Value.none) = true) from by simp)]
      have fin : wpAny (model X.prog X.w) X.A (setFlight (.ref a) X.env.frame) (fun _ s4 => wpAny (model X.prog X.w) X.A (throw (.ref a) : Sem Flow) (SP X pins D) X.xe s4) X.xe { s' with heap := h3 } := by
        rw [hf]
        refine HandSPX.setFlight_upZ fl3 fun h4 hh4 up4 => wpAny_throw (tk _ _ ⟨a, B, sI, pins, σ', H', .ref C, d, rfl, J, nb, (up.trans up3).trans up4, .inr (.inr (by rw [hs]; exact hh4)), na, os, ag, hno rfl⟩)
      first
        | exact wpAny_bind (wpAny_pure (wpAny_bind fin))
        | exact wpAny_bind fin
  · cases f with
    | next =>
      obtain ⟨σ', H', J', q⟩ := hsp
      exact wpAny_execs_nil ⟨σ', H', J'.ofTry ok0, q⟩
    | ret u =>
      obtain ⟨v, σ', H', J', r, q⟩ := hsp
      exact ⟨v, σ', H', J'.ofTry ok0, r, q⟩
    | _ =>
      obtain ⟨σ', H', J', q⟩ := hsp
      exact ⟨σ', H', J'.ofTry ok0, q⟩

/-- isinstance(e, c), e a known error of the program's own -/
def rIsX (K : PySem.W.Frag) : List V → Hp → VK → Prop := fun xs H Q => ∃ (a C dd : Addr) (fs : List (Str × V)) (c : V) (u : Value) (b : Bool), xs = [.ref a, c] ∧ ClsV c u ∧ ExcT K C ∧ H a = some (EXO C a (some dd)) ∧ XD H dd fs ∧ PySem.W.kitOne K (.ref C) u = some b ∧ Q (.bl b) H
theorem call_isX : CallR X (.builtin "isinstance") (rIsX X.K) := by
  intro pins s σ H xs us Q I r h
  obtain ⟨a, C, dd, fs, c, u, b, rfl, k, T, ea, ed, e, q⟩ := h
  obtain ⟨u1, u2, rfl, r1, r2⟩ := vals2 r
  have e2 := k.eq r2
  subst e2
  obtain rfl : u1 = Value.ref a := r1
  obtain ⟨oe, od, mA, J, _, _⟩ := inst_of I ea ed
  have hcl : (PySem.W.clsIn X.K C).isSome = true := by
    obtain ⟨cd, hC, _⟩ := PySem.W.any_some T.hd
    rw [hC]
    rfl
  exact PySem.W.kia_one (PySem.W.kitx_exc hcl T.ga T.gg T.be T.kl T.ge T.tk T.mo) I.kIn J e (fun z => nomatch z) fun tk => ⟨.bl b, H, I.tok tk, rfl, q⟩
end
end KZ
end

section
set_option Elab.async false
set_option linter.all false
set_option maxRecDepth 100000
set_option maxHeartbeats 4000000
/-! calls with keywords alone: of defs, of own errors -/
namespace PySem
namespace KZ5
open PySem.HandSPX Builtin Builtin.ObjectAttr
section
variable {M : Model} {A : Around} {E : Value → Shared → Prop} {h : Heap} {g : Array GenState} {d : Drawn} {t : Nat} {os : OsState} {prog : Program} {w : World} {R : Result → Shared → Prop}
variable {nm q : Str} {C N : Addr} {bs bm bmB : List Value} {hdct : Bool} {sn : List Str} {sub : List Value} {ab : Bool} {col : Option Bool} {dd : Option Addr} {k0 k1 k2 k3 k5 : Option Value} {B newId initId : String} {kws : List (Str × Value)}
theorem check_newK (F : ExcBaseFacts B newId initId bmB) (hT : ∀ X : String, bm.contains (.type X) = bmB.contains (.type X)) {rest : List Value} {Q : Unit → Shared → Prop}
    (hC : h.get? C = some (excClassObj nm q C N bs bm hdct sn sub ab col dd k0 k1 k2 k3 k5 newId)) (hq : Q () ⟨h, g, d, t, os⟩) : wpAny M A (checkBuiltinCall newId ⟨.ref C :: rest, kws⟩) Q E ⟨h, g, d, t, os⟩ := by
  have hco : (Value.ref C :: bm).contains (.type B) = true := by rw [List.contains_cons, hT, F.hasB, Bool.or_true]
  have hst := F.noStar
  simp only [checkBuiltinCall, F.newKind, F.newSplit, F.newRow]
  repeat (first | refine wpAny_loadPart_at hC ?_ | (refine wpAny_isSubtype_exc hC ?_; rw [hco]) | refine wpAny_staticBase_exc hC ?_ | refine wpAny_madeBy_exc hC ?_ | simp only [bne_self_eq_false, Bool.false_eq_true, if_false] | wp_step)
  exact hq
theorem new_K (F : ExcBaseFacts B newId initId bmB) (hT : ∀ X : String, bm.contains (.type X) = bmB.contains (.type X))
    (hC : h.get? C = some (excClassObj nm q C N bs bm hdct sn sub ab col dd k0 k1 k2 k3 k5 newId))
    (hq : R (.ok (.ret (.ref (h.objs.size + 1)))) ⟨(h.push (W.kdv_tup [])).push (excO C h.objs.size), g, d, t, os⟩) : codeAny (model prog w) A (.builtin newId ⟨[.ref C], kws⟩) R ⟨h, g, d, t, os⟩ := by
  have hends := F.ends
  have hc1 : (Value.ref C :: bm).contains (.type B) = true := by rw [List.contains_cons, hT, F.hasB, Bool.or_true]
  have hc2 : (Value.ref C :: bm).contains (.type "AttributeError") = false := by rw [List.contains_cons, hT, F.noAttr]; rfl
  have hc3 : (Value.ref C :: bm).contains (.type "NameError") = false := by rw [List.contains_cons, hT, F.noName]; rfl
  refine codeAny_builtinAt F.entry ?_
  unfold Builtin.«BaseException.__new__»
  refine wpAt_bind ?_
  show wpAt _ _ _ (stack >>= _) _ _ _
  refine wpAt_bind (wpAt_stack fun p below => wpAt_of_wpAny ?_)
  wp_walk
  refine wpAt_of_wpAny ?_
  rw [F.owner]
  repeat (first | with_reducible refine wpAny_madeHere_exc F.canon hC ?_ | with_reducible refine wpAny_loadPart_at hC ?_ | (with_reducible refine wpAny_isSubtype_exc hC ?_; first | rw [hc1] | rw [hc2] | rw [hc3]) | wp_step)
  show R _ _
  rw [Heap.size_push]
  exact hq
theorem type_call_K (F : ExcBaseFacts B newId initId bmB) (hT : ∀ X : String, bm.contains (.type X) = bmB.contains (.type X)) {fI : Addr} {Q : Fin → Shared → Prop}
    (hC : h.get? C = some (excClassObj nm q C N bs bm hdct sn sub ab col dd k0 k1 k2 k3 k5 newId))
    (hi : W.Looks (model prog w) h (typeLookup (.ref C) "__init__") (some (.ref fI))) (hb : ∀ self, W.Looks (model prog w) h (bindSpecial (.ref fI) self) (.ref fI, [self]))
    (hq : codeAny (model prog w) A (.call (.ref fI) ⟨[.ref (h.objs.size + 1)], kws⟩)
      (fun r s' => match r with | .ok (.ret v) => v = .none ∧ Q (.done (.ret (.ref (h.objs.size + 1)))) s' | .ok _ => False | .error e => E e s') ⟨(h.push (W.kdv_tup [])).push (excO C h.objs.size), g, d, t, os⟩) :
    wpAny (model prog w) A (Builtin.«type.__call__» ⟨[.ref C], kws⟩) Q E ⟨h, g, d, t, os⟩ := by
  repeat (first | with_reducible refine wpAny_loadPart_at hC ?_ | with_reducible refine wpAny_madeBy_exc hC ?_ | wp_step)
  refine codeAny_call_builtin_code (Code.quiet_builtin _ F.quiet) (check_newK F hT hC ?_)
  refine new_K F hT hC ?_
  show wpAny _ _ _ _ _ _
  have k : ∀ b o, h.get? b = some o → ((h.push (W.kdv_tup [])).push (excO C h.objs.size)).get? b = some o := fun b o e => Heap.get?_push_of_some _ (Heap.get?_push_of_some _ e)
  have hC2 := k _ _ hC
  have hget : ((h.push (W.kdv_tup [])).push (excO C h.objs.size)).get? (h.objs.size + 1) = some (excO C h.objs.size) := by heap_get
  have hcC : (Value.ref C :: bm).contains (.ref C) = true := by simp
  have i1 := hi.keeps k
  have b1 := (hb (.ref (h.objs.size + 1))).keeps k
  unfold isInstance
  repeat (first | with_reducible refine wpAny_loadPart_at hget ?_ | (with_reducible refine wpAny_isSubtype_exc hC2 ?_; rw [hcC]) | wp_step)
  show wpAny _ _ (typeLookup (.ref C) _) _ _ _
  refine i1.at (wpAny_holding (wpAny_bind (b1.at ?_)))
  refine wpAny_bind (wpAny_call (codeAny_mono hq fun r s' z => ?_))
  rcases r with e | (v | _ | _ | _) <;> first | exact z | exact z.elim | skip
  obtain ⟨rfl, z⟩ := z
  first
    | exact wpAny_pure (wpAny_pure z)
    | (wp_walk; exact z)
theorem check_type_K (hC : h.get? C = some (excClassObj nm q C N bs bm hdct sn sub ab col dd k0 k1 k2 k3 k5 newId)) {Q : Unit → Shared → Prop}
    (hq : Q () ⟨h, g, d, t, os⟩) : wpAny M A (checkBuiltinCall "type.__call__" ⟨[.ref C], kws⟩) Q E ⟨h, g, d, t, os⟩ := by
  have f3 := tc_sub
  have hT : (⟨h, g, d, t, os⟩ : Shared).TypeIs (.ref C) "type" := ⟨_, hC, rfl⟩
  simp only [checkBuiltinCall, tc_kind, tc_split]
  repeat (any_goals (first | assumption | with_reducible refine wpAny_loadPart_at hC ?_ | with_reducible refine wpAny_onRaise ?_ | with_reducible refine wpAny_map ?_ | wp_step))
theorem call_K (F : ExcBaseFacts B newId initId bmB) (hT : ∀ X : String, bm.contains (.type X) = bmB.contains (.type X)) {fI : Addr}
    (hC : h.get? C = some (excClassObj nm q C N bs bm hdct sn sub ab col dd k0 k1 k2 k3 k5 newId))
    (hi : W.Looks (model prog w) h (typeLookup (.ref C) "__init__") (some (.ref fI))) (hb : ∀ self, W.Looks (model prog w) h (bindSpecial (.ref fI) self) (.ref fI, [self]))
    (hq : codeAny (model prog w) (A.under (.builtin "type.__call__" ⟨[.ref C], kws⟩)) (.call (.ref fI) ⟨[.ref (h.objs.size + 1)], kws⟩) (W.InitBack (h.objs.size + 1) R) ⟨(h.push (W.kdv_tup [])).push (excO C h.objs.size), g, d, t, os⟩) :
    codeAny (model prog w) A (.call (.ref C) ⟨[], kws⟩) R ⟨h, g, d, t, os⟩ := by
  have f1 := tc_lookup
  have f2 := tc_bind (.ref C)
  have hTy : (⟨h, g, d, t, os⟩ : Shared).TypeIs (.ref C) "type" := ⟨_, hC, rfl⟩
  refine codeAny_of_tree ?_
  show wpAny _ _ (callAny (.ref C) _) _ _ _
  repeat (any_goals (first | assumption | with_reducible refine wpAny_loadPart_at hC ?_ | wp_step))
  refine ⟨rfl, ?_⟩
  refine codeAny_call_builtin_at (Code.quiet_builtin _ (by decide +kernel)) entry_typeCall (check_type_K hC (type_call_K F hT hC hi hb ?_))
  refine codeAny_mono hq fun r s' z => ?_
  rcases r with e | (v | _ | _ | _) <;> exact z
end
end KZ5
end PySem
namespace KZ
open PySem PySem.Spec PyProof.Rows L2
section
variable {X : Cx} {cx : CXT} {k : Nat} {f C fI : Addr} {fd : FuncData} {ps ks : List Str} {sp : Sp} {E : XK} {x : Str} {p pos : Pos} {kws : List Keyword} {tk : TA} {g : List Value → List Value → List Value} {gV : List V → List V → List V}
/-- f(k = v, ..) -/
theorem pe_callK0 (F : FnOk X.prog X.w X.K X.mg X.base cx k f fd ps sp) (hr : Room k X.A) (hg : Gl X x) (hm : X.mg x = some (.ref f)) (hk : PySem.W.keepIn X.K (.ref f) = true) (hb : KBinds X.K fd ps ks g gV) (hx : Passes cx X E) (hkw : PK X kws tk)
    (hall : (backToKw pos (keywordEach kws X.env)).all (·.1.isSome) = true := by rfl) (hks : (backToKw pos (keywordEach kws X.env)).filterMap (·.1) = ks := by rfl) (hdb : (x == ("__debug__" : Str)) = false := by decide)
    (hpl : ((backTo pos (starEach [] X.env)).any (·.1) || (backToKw pos (keywordEach kws X.env)).any (·.1.isNone)) = false := by rfl) : PE X (.Call (.Name x p) [] kws pos) (tCallK sp gV E tNil tk) :=
  ⟨fun pins s σ H Q I h => wpAny_Call_Name_kw (ld_glob I hg hm (PySem.W.callWith_KW0 (h₀ := X.base) I.ok.mod.kin hk hall (thn (hkw.run pos pins s σ H _ I h) fun ws s2 ⟨zs, H2, I2, rz, q2⟩ => ⟨I2.kIn, by
    rw [hks]
    exact run_fnk (us := []) (vs := []) F hr hb hx I2 .nil rz q2⟩) hpl) hdb)⟩
/-- C(k = v, ..), an own error -/
def tOexK (C : Addr) (sp : Sp) (gV : List V → List V → List V) (tk : TA) : TE := fun σ H Q => tk σ H fun zs H1 => ∀ a, H1 a = none → sp (gV [.ref a] zs) (upd H1 a (exo a C none))
  (fun v H2 => v = .non ∧ ∃ d, H2 a = some (exo a C (some d)) ∧ Q (.ref a) (upd H2 a (EXO C a (some d)))) (fun _ _ _ => False)
theorem pe_oexK0 (T : OexC X.K C) (iC : PySem.W.findIn X.K (.ref C) "__init__" = some (some (.ref fI))) (tI : PySem.W.typeIn X.K (.ref fI) = some (.type "function")) (F1 : FnOk X.prog X.w X.K X.mg X.base cx k fI fd ps sp) (hr : Room (k + 1) X.A)
    (hb : KBinds X.K fd ps ks g gV) (hx : Passes cx X (fun _ _ _ => False)) (hg : Gl X x) (hm : X.mg x = some (.ref C)) (hkw : PK X kws tk)
    (hall : (backToKw pos (keywordEach kws X.env)).all (·.1.isSome) = true := by rfl) (hks : (backToKw pos (keywordEach kws X.env)).filterMap (·.1) = ks := by rfl) (hdb : (x == ("__debug__" : Str)) = false := by decide)
    (hpl : ((backTo pos (starEach [] X.env)).any (·.1) || (backToKw pos (keywordEach kws X.env)).any (·.1.isNone)) = false := by rfl) : PE X (.Call (.Name x p) [] kws pos) (tOexK C sp gV tk) := by
  refine ⟨fun pins s σ H Q I h => ?_⟩
  obtain ⟨nm, q, N, bs, bm, sn, sub, ab, col, dd, k0, k1, k2, k3, k5, hC, hbm⟩ := T.cls
  refine wpAny_Call_Name_kw (ld_glob I hg hm ?_ hdb)
  refine PySem.W.callWith_KW0 (h₀ := X.base) I.ok.mod.kin T.kC hall (thn (hkw.run pos pins s σ H _ I h) fun ws s1 ⟨zs, H1, I1, rz, q1⟩ => ⟨I1.kIn, ?_⟩) hpl
  rw [hks]
  show wpAny _ _ (call (.ref C) [] (ks.zip ws)) _ _ _
  obtain ⟨hp, gg, dr, tk, os⟩ := s1
  obtain ⟨a, hA⟩ : ∃ a, a = hp.objs.size + 1 := ⟨_, rfl⟩
  have hsz : hp.objs.size ≤ a := by rw [hA]; exact Nat.le_succ _
  have hq := q1 a (I1.hok.fresh hsz)
  have kk : ∀ b o, hp.get? b = some o → ((hp.push (PySem.W.kdv_tup [])).push (PySem.HandSPX.excO C hp.objs.size)).get? b = some o := fun b o e => Heap.get?_push_of_some _ (Heap.get?_push_of_some _ e)
  have hget : ((hp.push (PySem.W.kdv_tup [])).push (PySem.HandSPX.excO C hp.objs.size)).get? a = some (PySem.HandSPX.excO C hp.objs.size) := by rw [hA]; heap_get
  have I2 : Inv X pins σ (upd H1 a (exo a C none)) ⟨(hp.push (PySem.W.kdv_tup [])).push (PySem.HandSPX.excO C hp.objs.size), gg, dr, tk, os⟩ :=
    I1.laid (t' := tk) (a := a) (o := exo a C none) (h' := (hp.push (PySem.W.kdv_tup [])).push (PySem.HandSPX.excO C hp.objs.size)) kk hsz (exo_ok hget)
  have r2 := hb.rel (vs := [V.ref a]) (us := [Value.ref a]) (.cons rfl .nil) rz
  have hl : (g [Value.ref a] ws).length = ps.length := by
    rw [← r2.length]
    exact F1.len _ _ _ _ hq
  have core := F1.run _ X.stack _ _ ⟨[Value.ref a], ks.zip ws⟩ (g [Value.ref a] ws) _ _ (fun _ _ _ => False) (hr.make C [] (ks.zip ws)) (I2.env0.make C [] (ks.zip ws)) (hb.to _ [Value.ref a] ws I2.kIn hl) r2 hq
  rw [hA] at core
  refine wpAny_call (PySem.KZ5.call_K F.excBase_ValueError (fun Y => PySem.HandSPX.refsVE_contains Y bm hbm) (I1.kIn _ _ hC) (PySem.W.looks_findIn I1.kIn iC) (fun self => PySem.W.bind_fn I1.kIn self tI) (codeAny_mono core fun r s' hq' => ?_))
  rw [← hA] at hq' ⊢
  cases r with
  | error er => exact hx pins σ _ _ er s' I2 hq'
  | ok fl =>
    cases fl with
    | ret u =>
      obtain ⟨v, H2, os2, bare2, un2, hok2, rv, ev, d, ea, q2⟩ := hq'
      subst ev
      have J : Inv X pins σ H2 s' := I2.call' (ch := []) os2 un2 hok2 bare2 (fun _ z => nomatch z)
      exact ⟨rv, .ref a, _, retrack J ea, rfl, q2⟩
    | _ => exact False.elim hq'
end
end KZ
end

section
set_option Elab.async false
set_option linter.all false
set_option maxRecDepth 100000
set_option maxHeartbeats 4000000
/-! the law's own call, its promise told where no repr is under way, the modules' dict known -/
namespace KZ
open PySem PySem.Spec PyProof.Rows L2

section
variable {P : Program} {w : World} {K : PySem.W.Frag} {mg mb : Str → Option Value} {k : Nat} {fa a : Addr} {cs : List (Addr × Addr)} {fd : FuncData} {x : Str} {sp : Sp} {st : Shared} {vs : List Value} {ns : List Int}
/-- the head's heap, as the law's call wants it -/
structure TopAt (K : PySem.W.Frag) (mg mb : Str → Option Value) (cs : List (Addr × Addr)) (st : Shared) : Prop where
  kin : K.In st.heap
  gl : st.heap.Ns mainGlobals mg
  bl : st.heap.Ns builtinsNs mb
  bb : ∀ x : Str, x ≠ "__name__" → mb x = bootBuiltins x
  lim : st.heap.NoLimit
  mods : ∃ mm, st.heap.Ns sysModules mm
  gens : st.gens = #[]
  tabs : ∀ p ∈ cs, st.heap.get? p.2 = some { cls := .none, data := .fields #[] }
  notK : ∀ p ∈ cs, K.lookup p.2 = none
  code : ∀ p ∈ cs, PySem.W.CodeHd st.heap p.1 p.2
  bm : ∃ (bm : Addr) (ob : Obj), mg "__builtins__" = some (.ref bm) ∧ bm ≠ builtinsNs ∧ st.heap.get? bm = some ob ∧ ob.cls = .type "module" ∧ ob.dict = some builtinsNs ∧ ob.data = .plain
/-- what is tracked at the law's call: the script, where it is no object of the module, and the tables -/
def H0 (K : PySem.W.Frag) (cs : List (Addr × Addr)) (a : Addr) (vs : List Value) (ns : List Int) : Hp := fun b =>
  if b = a ∧ K.lookup a = none then some (.frz { cls := .type "list", data := .seq vs.toArray } (.lst (ns.map V.int))) else if b ∈ cs.map (·.2) then some (.tbl #[]) else none
theorem H0_not {b : Addr} (h1 : b ≠ a) (h2 : b ∉ cs.map (·.2)) : H0 K cs a vs ns b = none := by
  unfold H0
  rw [if_neg (fun z => h1 z.1), if_neg h2]
theorem tabAt (T : TopAt K mg mb cs st) {b : Addr} (hb : b ∈ cs.map (·.2)) : st.heap.get? b = some { cls := .none, data := .fields #[] } ∧ K.lookup b = none := by
  obtain ⟨p, hp, e⟩ := List.mem_map.mp hb
  subst e
  exact ⟨T.tabs p hp, T.notK p hp⟩
theorem notTab (T : TopAt K mg mb cs st) (ha : st.heap.get? a = some { cls := .type "list", data := .seq vs.toArray }) : a ∉ cs.map (·.2) := fun z => by
  have q := (tabAt T z).1
  rw [ha] at q
  cases q
theorem H0_tab (T : TopAt K mg mb cs st) (ha : st.heap.get? a = some { cls := .type "list", data := .seq vs.toArray }) {b : Addr} (hb : b ∈ cs.map (·.2)) : H0 K cs a vs ns b = some (.tbl #[]) := by
  unfold H0
  rw [if_neg (show ¬ (b = a ∧ K.lookup a = none) from fun z => notTab T ha (z.1 ▸ hb)), if_pos hb]
/-- an object that is neither a list nor an empty table is not tracked -/
theorem H0_free (T : TopAt K mg mb cs st) (ha : st.heap.get? a = some { cls := .type "list", data := .seq vs.toArray }) {b : Addr} {o : Obj} (e : st.heap.get? b = some o) (h1 : ∀ vs n, o.data ≠ .seq vs n) (h2 : o.data ≠ .fields #[]) : H0 K cs a vs ns b = none := by
  refine H0_not (fun z => ?_) fun z => ?_
  · rw [z, ha] at e
    cases e
    exact h1 _ _ rfl
  · rw [(tabAt T z).1] at e
    cases e
    exact h2 rfl
theorem H0_ok (T : TopAt K mg mb cs st) (ha : st.heap.get? a = some { cls := .type "list", data := .seq vs.toArray }) (hi : IntsAre vs ns) (hl : ns.length ≤ sizeLine) : HOk P w (H0 K cs a vs ns) st.heap := fun b u z => by
  unfold H0 at z
  split at z
  · rename_i q
    cases z
    rw [q.1]
    exact ⟨ha, by rw [List.length_map]; exact hl, vs, _, vals_ints hi, ha⟩
  · split at z
    · rename_i q
      cases z
      exact (tabAt T q).1
    · cases z
theorem H0_sq (T : TopAt K mg mb cs st) (ha : st.heap.get? a = some { cls := .type "list", data := .seq vs.toArray }) (hi : IntsAre vs ns) (hl : ns.length ≤ sizeLine) : SqL K (H0 K cs a vs ns) a (ns.map V.int) := by
  cases hk : K.lookup a with
  | none => exact .inl (.inr ⟨_, by unfold H0; rw [if_pos ⟨rfl, hk⟩]⟩)
  | some o =>
    have e := T.kin a o hk
    rw [ha] at e
    cases e
    exact .inr ⟨_, vs.toArray, _, hk, rfl, rfl, rfl, by rw [List.size_toArray, hi.length]; exact hl, by simpa using vals_ints hi⟩
theorem top_base (T : TopAt K mg mb cs st) (ha : st.heap.get? a = some { cls := .type "list", data := .seq vs.toArray }) :
    L2.Mod K mg (hidT st.heap (H0 K cs a vs ns)) ∧ ModsD (hidT st.heap (H0 K cs a vs ns)) ∧ ∀ p ∈ cs, LamX.TabB (hidT st.heap (H0 K cs a vs ns)) mg p.1 p.2 := by
  have dk : ∀ {b : Addr} {o : Obj} {es : Array DictEntry} {ep : Nat}, st.heap.get? b = some o → o.data = .dict es ep → (hidT st.heap (H0 K cs a vs ns)).get? b = some o := fun e d =>
    hidT_get e (H0_free T ha e (fun _ _ z => by rw [d] at z; cases z) fun z => by rw [d] at z; cases z)
  have nk : ∀ {b : Addr} {m : Str → Option Value}, st.heap.Ns b m → (hidT st.heap (H0 K cs a vs ns)).Ns b m := fun ⟨o, es, ep, e, d, r⟩ => ⟨o, es, ep, dk e d, d, r⟩
  have kin : K.In (hidT st.heap (H0 K cs a vs ns)) := fun b o e => hidT_get (T.kin b o e) (by
    unfold H0
    rw [if_neg (fun z => by rw [z.1, z.2] at e; cases e), if_neg (fun z => by rw [(tabAt T z).2] at e; cases e)])
  obtain ⟨mm, om, es, ep, em, dm, _⟩ := T.mods
  obtain ⟨mc, l1, l2⟩ := T.lim
  refine ⟨⟨kin, nk T.gl, ⟨mb, nk T.bl, T.bb⟩, mc, nk l1, l2⟩, ⟨om, es, ep, dk em dm, dm⟩, fun p hp => ⟨?_, ?_, fun z => ?_⟩⟩
  · obtain ⟨o, us, file, tf, flags, tg, inF, text, tt, e1, r1, r2, r3, rr⟩ := T.code p hp
    refine ⟨o, us, file, tf, flags, tg, inF, text, tt, hidT_get e1 (H0_free T ha e1 (fun _ _ z => by rw [r2] at z; cases z) fun z => ?_), r1, r2, r3, rr⟩
    rw [r2] at z
    cases z
    simp at r3
  · obtain ⟨bm, ob, b1, b2, b3, b4, b5, b6⟩ := T.bm
    have g1 : bm ≠ mainGlobals := fun q => by
      obtain ⟨o, es, ep, e, hd, _⟩ := T.gl
      rw [q, e] at b3
      cases b3
      rw [hd] at b6
      cases b6
    have g2 : bm ≠ p.2 := fun q => by
      rw [q, T.tabs p hp] at b3
      cases b3
      cases b6
    exact ⟨bm, ob, b1, b2, g1, g2, hidT_get b3 (H0_free T ha b3 (fun _ _ z => by rw [b6] at z; cases z) fun z => by rw [b6] at z; cases z), b4, b5, b6⟩
  · obtain ⟨o, es, ep, e, hd, _⟩ := T.gl
    rw [z, T.tabs p hp] at e
    cases e
    cases hd
/-- THE CALL -/
theorem law_callG (T : TopAt K mg mb cs st) (ha : st.heap.get? a = some { cls := .type "list", data := .seq vs.toArray }) (hi : IntsAre vs ns) (hl : ns.length ≤ sizeLine) (hr : Room k callerA)
    (F : ∀ base : Heap, K.In base → base.Ns mainGlobals mg → ModsD base → (∀ p ∈ cs, LamX.TabB base mg p.1 p.2) → FnG P w K mg base CX0 k fa fd [x] sp) (hbind : ∀ (s : Shared) (u : Value), BindsTo s fd ⟨[u], []⟩ [(x, u)])
    (hsp : ∀ H : Hp, (∀ p ∈ cs, H p.2 = some (.tbl #[])) → SqL K H a (ns.map V.int) → sp [.ref a] H (fun v _ => v = .bl true) fun _ _ _ => False) :
    codeAny (model P w) callerA (.call (.ref fa) ⟨[.ref a], []⟩) (fun r s' => r = .ok (.ret (.bool true)) ∧ OldK st.heap s'.heap ∧ s'.os = st.os ∧ AllBare s'.gens) st := by
  obtain ⟨hM, hD, hT⟩ := top_base (vs := vs) (ns := ns) T ha
  have ok : HOk P w (H0 K cs a vs ns) st.heap := H0_ok T ha hi hl
  have e0 : Env0 P w K mg (hidT st.heap (H0 K cs a vs ns)) callerA [] st (H0 K cs a vs ns) := ⟨rfl, hM, fun b o e => of_hidT e, Nat.le_of_eq (hidT_size _ _), trivial, (fun b hb => nomatch hb), ok, .of_eq T.gens⟩
  refine codeAny_mono ((F _ hM.kin hM.glob hD hT).runG callerA [] st _ ⟨[.ref a], []⟩ [.ref a] [.ref a] _ _ rfl hr e0 (hbind st (.ref a)) (.cons rfl .nil) (hsp _ (fun p hp => H0_tab T ha (List.mem_map.mpr ⟨p, hp, rfl⟩)) (H0_sq T ha hi hl))) fun r s' h => ?_
  cases r with
  | error e => exact (show False from h).elim
  | ok fl =>
    cases fl with
    | ret u =>
      obtain ⟨v, H', os, bare, un, ok', r', q⟩ := h
      have q' : v = .bl true := q
      subst q'
      obtain rfl : u = Value.bool true := r'
      have same : ∀ b o, b ∉ cs.map (·.2) → st.heap.get? b = some o → s'.heap.get? b = some o := fun b o nb e => by
        cases z : H0 K cs a vs ns b with
        | none => exact un.keep b o e z (fun y => nomatch (show b ∈ ([] : List Addr) from y)) (fun y => nomatch y)
        | some u =>
          have zz := z
          unfold H0 at zz
          by_cases hba : b = a ∧ K.lookup a = none
          · rw [if_pos hba] at zz
            cases zz
            obtain ⟨e1, _⟩ := ok b _ z
            obtain ⟨e2, _⟩ := ok' b _ (un.frzs b _ _ z)
            rw [e] at e1
            cases e1
            exact e2
          · rw [if_neg hba, if_neg nb] at zz
            cases zz
      have grown : ∀ p ∈ cs, ∃ more : Array Value, s'.heap.get? p.2 = some { cls := .none, data := .fields more } := fun p hp => by
        obtain ⟨more, z⟩ := un.tbls p.2 #[] (H0_tab T ha (List.mem_map.mpr ⟨p, hp, rfl⟩))
        exact ⟨_, ok' p.2 _ z⟩
      refine ⟨rfl, ⟨fun b o e => ?_, fun b o e => ?_⟩, os, bare⟩
      · by_cases hb : b ∈ cs.map (·.2)
        · obtain ⟨p, hp, ep⟩ := List.mem_map.mp hb
          obtain ⟨more, hm⟩ := grown p hp
          subst ep
          rw [T.tabs p hp] at e
          cases e
          exact .inr (.inl ⟨((T.code p hp).tab (T.tabs p hp)).isCodeTable, rfl, #[], more, rfl, by rw [Array.empty_append]; exact hm⟩)
        · exact .inl (same b o hb e)
      · by_cases hb : b ∈ cs.map (·.2)
        · obtain ⟨p, hp, ep⟩ := List.mem_map.mp hb
          obtain ⟨more, hm⟩ := grown p hp
          subst ep
          rw [T.tabs p hp] at e
          cases e
          exact ⟨_, hm⟩
        · exact ⟨o, same b o hb e⟩
    | _ => exact False.elim h
end
/-- what is known of the law's promise at the head's heap h -/
def LawG (l : PySem.W.OpenLaw) (w : World) (K : PySem.W.Frag) (k n : Nat) (x : Str) (mg : Str → Option Value) (fa : Addr) (h : Heap) : Prop :=
  ∃ (fd : FuncData) (cs : List (Addr × Addr)) (sp : Sp), (∀ p ∈ cs, h.get? p.2 = some { cls := .none, data := .fields #[] }) ∧ (∀ p ∈ cs, K.lookup p.2 = none) ∧ (∀ p ∈ cs, PySem.W.CodeHd h p.1 p.2) ∧ (∀ (s : Shared) (u : Value), BindsTo s fd ⟨[u], []⟩ [(x, u)]) ∧
    (∀ (H : Hp) (a : Addr) (ns : List Int), ns.length ≤ n → (∀ z ∈ ns, Builtin.Int.intBits z ≤ 1048576) → (∀ p ∈ cs, H p.2 = some (.tbl #[])) → SqL K H a (ns.map V.int) → sp [.ref a] H (fun v _ => v = .bl true) fun _ _ _ => False) ∧
    ∀ base : Heap, K.In base → base.Ns mainGlobals mg → ModsD base → (∀ p ∈ cs, LamX.TabB base mg p.1 p.2) → FnG l.prog w K mg base CX0 k fa fd [x] sp
theorem walkG {l : PySem.W.OpenLaw} {n k : Nat} {q : Program} {loose : List Str} {XP : (Str → Option Value) → Heap → Prop} {YP : World → Heap → Prop} {d : DefRec} {K : Params → PySem.W.Frag} {x : Str}
    (hn : l.most = some n) (hn2 : n ≤ sizeLine) (hdf : d.params.defaults = []) (hr : Room k callerA) (hno : importsNone q = true) (hY : ∀ (w : World) (h : Heap), YP w h → (K w.params).In h)
    (F : ∀ (w : World) (mg : Str → Option Value) (fa : Addr) (h : Heap), YP w h → (K w.params).In h → h.Ns mainGlobals mg → mg d.name = some (.ref fa) → LawG l w (K w.params) k n x mg fa h) :
    PySem.W.WalkO q loose XP YP l.row.toRowW d [] (fun f vs => PySem.call f vs) := by
  refine Att.attach_callB hn hdf fun w s₀ s₁ mg mb fa o pm cd doc a vs ns G Y ho hd hcd hmg hobj hints hlen hbits hg => ?_
  have kx := hY w _ Y
  obtain ⟨fd, cs, sp, hT, nT, C, hb, hsp, hF⟩ := F w mg fa _ Y kx G.T.g hmg
  have ms := (G.T.seer hno).mods
  exact law_callG ⟨kx, G.T.g, G.T.b, G.T.builtins, G.T.nolimit, ⟨_, ms.choose_spec.1⟩, hg, hT, nT, C, G.T.bmain⟩ hobj hints (Nat.le_trans hlen hn2) hr hF hb fun H hH hS => hsp H a ns hlen hbits hH hS
end KZ
end

section
set_option Elab.async false
set_option linter.all false
set_option maxRecDepth 100000
set_option maxHeartbeats 4000000
/-! own errors without a dict: made, asked by isinstance -/
namespace KZ
open PySem PySem.Spec PyProof.Rows L2
section
variable {X : Cx} {pins : List (Addr × Obj)} {σ : L2.St} {H : Hp} {s : Shared}
/-- isinstance(e, c), e an error of the program's own, with a dict or without -/
def rIsE (K : PySem.W.Frag) : List V → Hp → VK → Prop := fun xs H Q => ∃ (a C : Addr) (d : Option Addr) (c : V) (u : Value) (b : Bool), xs = [.ref a, c] ∧ ClsV c u ∧ ExcT K C ∧ H a = some (EXO C a d) ∧ (∀ dd, d = some dd → ∃ fs, XD H dd fs) ∧ PySem.W.kitOne K (.ref C) u = some b ∧ Q (.bl b) H
theorem call_isE : CallR X (.builtin "isinstance") (rIsE X.K) := by
  intro pins s σ H xs us Q I r h
  obtain ⟨a, C, d, c, u, b, rfl, k, T, ea, ed, e, q⟩ := h
  obtain ⟨u1, u2, rfl, r1, r2⟩ := vals2 r
  have e2 := k.eq r2
  subst e2
  obtain rfl : u1 = Value.ref a := r1
  have hcl : (PySem.W.clsIn X.K C).isSome = true := by
    obtain ⟨cd, hC, _⟩ := PySem.W.any_some T.hd
    rw [hC]
    rfl
  obtain ⟨oe, od, J⟩ : ∃ (oe : Obj) (od : Option Obj), PySem.W.InstAt s.heap a oe C od := by
    cases d with
    | some dd =>
      obtain ⟨fs, ed⟩ := ed dd rfl
      obtain ⟨oe, od, mA, J, _, _⟩ := inst_of I ea ed
      exact ⟨oe, _, J⟩
    | none =>
      obtain ⟨oe, vs, ha, hz, hd⟩ := EXO.get I.hok ea
      exact ⟨oe, none, ⟨ha, hz.1, by unfold PySem.W.notCls; rw [hd] <;> rfl, by rw [hz.2]; exact True.intro⟩⟩
  exact PySem.W.kia_one (PySem.W.kitx_exc hcl T.ga T.gg T.be T.kl T.ge T.tk T.mo) I.kIn J e (fun z => nomatch z) fun tk => ⟨.bl b, H, I.tok tk, rfl, q⟩
/-- C(), an own error without an __init__ of its own -/
theorem pe_oex0 {C : Addr} {bmB : List Value} {B newId initId : String} {x : Str} {p pos : Pos} (F : ExcBaseFacts B newId initId bmB) (q : PySem.W.excIn X.K C bmB newId = true) (gC : X.mg x = some (.ref C)) (kC : PySem.W.keepIn X.K (.ref C) = true) (hg : Gl X x)
    (hdb : (x == ("__debug__" : Str)) = false := by decide) :
    PE X (.Call (.Name x p) [] [] pos) (fun σ H Q => ∀ a, H a = none → Q (.ref a) (upd H a (EXO C a none))) := by
  refine ⟨fun pins s σ H Q I h => ?_⟩
  refine wpAny_Call_Name_kw (ld_glob I hg gC ?_ hdb)
  refine PySem.W.callWith_K0 I.kIn kC ?_
  obtain ⟨bm, N, nm, qn, bs, hdct, sn, sub, ab, col, dd, k0, k1, k2, k3, k5, mN, hC, hN, hni, T⟩ := exc_obj I.kIn q
  refine wpAny_call_exc_subT F T hC hN hni (fun h' a hm => ?_) (by show 0 ≤ sizeLine; omega)
  have hn : H a = none := I.hok.gone hm.new
  obtain ⟨t, ht, _, _⟩ := hm.there
  exact ⟨.ref a, upd H a (EXO C a none), I.laidN hm.keeps hm.new hn (exo_okE ht ⟨rfl, rfl⟩ rfl), rfl, h a hn⟩
end
end KZ
end

section
set_option Elab.async false
set_option linter.all false
set_option maxRecDepth 100000
set_option maxHeartbeats 4000000
/-! the end over a head by names: own errors' facts by one Bool -/
namespace KZ
open PySem PySem.Spec PyProof.Rows L2
theorem walkGE {l : PySem.W.OpenLaw} {n k : Nat} {q : Program} {loose : List Str} {XP : (Str → Option Value) → Heap → Prop} {YP : World → Heap → Prop} {d : DefRec} {x : Str}
    (hn : l.most = some n) (hn2 : n ≤ sizeLine) (hdf : d.params.defaults = []) (hr : Room k callerA) (hno : importsNone q = true)
    (F : ∀ (w : World) (mg : Str → Option Value) (fa : Addr) (h : Heap), YP w h → h.Ns mainGlobals mg → mg d.name = some (.ref fa) → ∃ K : PySem.W.Frag, K.In h ∧ LawG l w K k n x mg fa h) :
    PySem.W.WalkO q loose XP YP l.row.toRowW d [] (fun f vs => PySem.call f vs) := by
  refine Att.attach_callB hn hdf fun w s₀ s₁ mg mb fa o pm cd doc a vs ns G Y ho hd hcd hmg hobj hints hlen hbits hg => ?_
  obtain ⟨K, kx, fd, cs, sp, hT, nT, C, hb, hsp, hF⟩ := F w mg fa _ Y G.T.g hmg
  have ms := (G.T.seer hno).mods
  exact law_callG ⟨kx, G.T.g, G.T.b, G.T.builtins, G.T.nolimit, ⟨_, ms.choose_spec.1⟩, hg, hT, nT, C, G.T.bmain⟩ hobj hints (Nat.le_trans hlen hn2) hr hF hb fun H hH hS => hsp H a ns hlen hbits hH hS
theorem fun_of {K : PySem.W.Frag} {x qual : Str} {st : Stmt} {f : Addr} {fd : FuncData} (F : FunD K x qual (defArgs st) (defBody st) (defScope st) [] [] f fd) : Fun K x qual st f fd := by
  obtain ⟨oc, od, dV, kV, doc, pm, an, cdv, ct, osl, e, lk, hcd, hD, hK⟩ := F.ex
  rcases hD with ⟨_, rfl⟩ | ⟨z, _⟩
  · exact ⟨⟨oc, od, kV, doc, pm, an, cdv, ct, osl, e, lk, hcd⟩, F.kp⟩
  · exact absurd rfl z
def oexB (K : PySem.W.Frag) (C : Addr) : Bool := match K.lookup C with
  | some ⟨.type "type", _, .cls cd, sl⟩ => (match cd.mro, sl.toList with
    | .ref C' :: bm, [_, _, _, _, some (.builtin n), _] => C' == C && n == "ValueError.__new__" && !cd.hasDel && cd.hasDict && PySem.HandSPX.refsVE bm
    | _, _ => false)
  | _ => false
theorem oexB_ok {K : PySem.W.Frag} {C : Addr} (q : oexB K C = true) :
    ∃ nm q N bs bm sn sub ab col dd k0 k1 k2 k3 k5, K.lookup C = some (excClassObj nm q C N bs bm true sn sub ab col dd k0 k1 k2 k3 k5 "ValueError.__new__") ∧ PySem.HandSPX.refsVE bm = true := by
  unfold oexB at q
  split at q
  · rename_i dd cd sl ho
    split at q
    · rename_i C' bm k0 k1 k2 k3 n k5 hm hs
      simp only [Bool.and_eq_true, beq_iff_eq, Bool.not_eq_true'] at q
      obtain ⟨⟨⟨⟨rfl, rfl⟩, hdel⟩, hd⟩, hr⟩ := q
      obtain ⟨nm, bs, mro, ns, qn, hd', sn, sub, ab, col, del⟩ := cd
      dsimp only at hm hdel hd
      subst hm hdel hd
      have hsl : sl = #[k0, k1, k2, k3, some (.builtin "ValueError.__new__"), k5] := by
        obtain ⟨l⟩ := sl
        simp only at hs
        rw [hs]
      subst hsl
      exact ⟨nm, qn, ns, bs, bm, sn, sub, ab, col, dd, k0, k1, k2, k3, k5, ho, hr⟩
    · cases q
  · cases q
/-- what is asked of every error class -/
def errB (K : PySem.W.Frag) (C : Addr) : Bool := He.eqO (PySem.W.findIn K (.ref C) "__getattribute__") (some (some (.builtin "BaseException.__getattribute__"))) && (He.eqO (PySem.W.findIn K (.ref C) "__getattr__") (some none) &&
  (decide (PySem.W.subIn K (.ref C) (.type "BaseException") = some true) && (PySem.W.hasDictIn K C && (He.eqO (PySem.W.findIn K (.ref C) "__class__") (some (some (.builtin "object.__class__"))) && (He.eqO (PySem.W.specialIn K (.builtin "object.__class__") "__get__") (some (some (.builtin "getset_descriptor.__get__"))) &&
  (decide (PySem.W.takesIn K (.builtin "object.__class__") = some true) && decide (PySem.W.mroIn K C (.type "object") = some true)))))))
theorem errB_ok {K : PySem.W.Frag} {C : Addr} (h : errB K C = true) : ExcT K C := by
  obtain ⟨h1, h⟩ := He.ba h
  obtain ⟨h2, h⟩ := He.ba h
  obtain ⟨h3, h⟩ := He.ba h
  obtain ⟨h4, h⟩ := He.ba h
  obtain ⟨h5, h⟩ := He.ba h
  obtain ⟨h6, h⟩ := He.ba h
  obtain ⟨h7, h8⟩ := He.ba h
  exact ⟨He.eqO_ok h1, He.eqO_ok h2, of_decide_eq_true h3, h4, He.eqO_ok h5, He.eqO_ok h6, of_decide_eq_true h7, of_decide_eq_true h8⟩
/-- what is asked of an error class with its own __init__, its fields fs -/
def errI (K : PySem.W.Frag) (C : Addr) (fs : List Str) : Bool := errB K C && (oexB K C && (He.eqO (PySem.W.findIn K (.ref C) "__setattr__") (some (some (.builtin "object.__setattr__"))) && (decide (PySem.W.typeIn K (.ref C) = some (.type "type")) && (PySem.W.keepIn K (.ref C) &&
  (He.eqO (PySem.W.findIn K (.ref C) "__init__") (some (some (.ref (He.ma K C "__init__")))) && (decide (PySem.W.typeIn K (.ref (He.ma K C "__init__")) = some (.type "function")) && fs.all fun f => He.eqO (PySem.W.findIn K (.ref C) f) (some none)))))))
end KZ
end

section
set_option Elab.async false
set_option linter.all false
set_option maxRecDepth 100000
set_option maxHeartbeats 4000000
/-! the head's facts over a chosen part of the heap: what some names lead to, the globals' dict itself not gone into -/
namespace KZ
open PySem PySem.Spec PyProof.Rows L2 He
/-- one step further, but not through the globals -/
def grY (g : Addr → Option Obj) (as : List Addr) : List Addr :=
  ((as ++ (as.map fun a => ((g a).map refsD).getD []).flatten).filter fun a => !(Nat.beq a mainGlobals)).eraseDups
def stY (g : Addr → Option Obj) : Nat → List Addr → List Addr
  | 0, as => as
  | m + 1, as => stY g m (grY g as)
/-- the globals, and what these names lead to in m steps -/
def asY (names : List Str) (m : Nat) (g : Addr → Option Obj) : List Addr :=
  mainGlobals :: stY g m (names.map fun x => ga (frG g [mainGlobals]) x)
/-- the globals; these defs; these classes, what they name, and what their own __init__ names -/
def asZ (fs cs : List Str) (g : Addr → Option Obj) : List Addr :=
  let K0 := frG g [mainGlobals]
  let nx := fun a => ((g a).map refsD).getD []
  (mainGlobals :: ((fs.map fun x => let a := ga K0 x; (a :: nx a).filter fun b => !(Nat.beq b mainGlobals)).flatten ++
    (cs.map fun x => let C := ga K0 x; let l := nx C; let i := ma (frG g (C :: l)) C "__init__"; (C :: l) ++ (i :: nx i)).flatten)).eraseDups
section
variable (as : (Addr → Option Obj) → List Addr) (fa : List Fa) (fn : List DefD) (ts : List Tab) (tf : List Defn) (ex : PySem.W.Frag → Bool)
def partY (g : Addr → Option Obj) : PySem.W.Frag := frT g (as g)
def obsY (g : Addr → Option Obj) : AlX :=
  let K := partY as g
  (obsT fa fn ts K, ex K && tabsB g tf K)
theorem saysY {w : World} {h : Heap} (e : obsY as fa fn ts tf ex h.get? = valX fn ts w) : SaysX fa fn ts tf ex w h (partY as h.get?) := by
  have z := Prod.mk.inj e
  obtain ⟨x1, x2⟩ := ba z.2
  have at_ : ∀ p, p ∈ tf → PySem.W.codeHdIn (partY as h.get?) (cT (partY as h.get?) p).1 (cT (partY as h.get?) p).2 = true ∧
      ∃ o, h.get? (cT (partY as h.get?) p).2 = some o ∧ emptyTab o = true := by
    intro p hp
    have y := ba (List.all_eq_true.mp x2 p hp)
    refine ⟨y.1, ?_⟩
    have y2 := y.2
    split at y2
    · rename_i o ho
      exact ⟨o, ho, y2⟩
    · cases y2
  constructor
  · exact z.1
  · exact x1
  · exact fun p hp => (at_ p hp).1
  · intro p hp
    have ⟨o, ho, eo⟩ := (at_ p hp).2
    exact frT_none ho eo
  · intro p hp
    have ⟨o, ho, eo⟩ := (at_ p hp).2
    exact ho.trans (congrArg some (emptyTab_eq eo))
def hookY : PySem.W.Hook where
  α := AlX
  obs s := obsY as fa fn ts tf ex s.heap.get?
  val w := valX fn ts w
  says w h := ∃ K : PySem.W.Frag, K.In h ∧ SaysX fa fn ts tf ex w h K
  of _ _ e := ⟨partY as _, frT_in, saysY as fa fn ts tf ex e⟩
  keeps _ _ _ c k := by
    obtain ⟨K, hK, s⟩ := c
    exact ⟨K, hK.keeps k, s.t, s.more, s.hd, s.out, fun p hp => k _ _ (s.empty p hp)⟩
theorem obsY_eq {g : Addr → Option Obj} {s : Shared} (h : ∀ a, g a = s.heap.get? a) : obsY as fa fn ts tf ex g = (hookY as fa fn ts tf ex).obs s := by
  rw [show g = s.heap.get? from funext h]
  rfl
end
/-- the same world; one row of the text's is told -/
def told (b : Bool) (w : World) : World := ⟨w.draws, { w.params with followText := fun row => if row = "special-get-raises" then b else w.params.followText row }⟩
theorem told_eq {b : Bool} {w : World} (h : w.params.followText "special-get-raises" = b) : told b w = w := by
  obtain ⟨d, p⟩ := w
  have e : (fun row => if row = "special-get-raises" then b else p.followText row) = p.followText := funext fun row => by
    by_cases z : row = "special-get-raises"
    · rw [if_pos z, z]; exact h.symm
    · rw [if_neg z]
  show (⟨d, { p with followText := fun row => if row = "special-get-raises" then b else p.followText row }⟩ : World) = ⟨d, p⟩
  rw [e]
end KZ
end

section
set_option Elab.async false
set_option linter.all false
set_option maxRecDepth 100000
set_option maxHeartbeats 4000000
/-! dicts whose keys are None, ints and texts -/
namespace KZ
open PySem PySem.Spec PyProof.Rows L2
abbrev NK := Option Key
def nV : NK → V
  | none => .non
  | some k => kV k
theorem nV_is {P : Program} {w : World} {k : NK} {u : Value} (r : RelV (nV k) u) : (noneKind P w).is k u = true := by
  cases k with
  | none =>
    obtain rfl : u = Value.none := r
    rfl
  | some k => exact kV_is (P := P) (w := w) r
theorem nV_rel {k : NK} {u : Value} (h : nkIs k u = true) : RelV (nV k) u := by
  cases k with
  | none =>
    rw [nk_none h]
    rfl
  | some k => exact relV_key h
/-- the dict at a, its pairs in their order -/
def DN (P : Program) (w : World) (a : Addr) (kvs : List (NK × V)) : HO :=
  .ext fun h => kvs.length ≤ sizeLine ∧ (a == sysModules) = false ∧ ∃ vs, KV kvs vs ∧ h.DictOf (noneKind P w) a vs
section
variable {P : Program} {w : World} {H : Hp} {h : Heap} {a : Addr} {kvs : List (NK × V)} {vs : List (NK × Value)}
theorem DN.mk (z : kvs.length ≤ sizeLine) (hd : (a == sysModules) = false) (rel : KV kvs vs) (dd : h.DictOf (noneKind P w) a vs) : ObjOk P w H h a (DN P w a kvs) := by
  refine ⟨⟨z, hd, vs, rel, dd⟩, ?_, fun h1 h2 ⟨z, hd, vs, rel, dd⟩ st => ⟨z, hd, vs, rel, ?_⟩⟩
  · obtain ⟨o, _, _, ho, _⟩ := dd
    exact ⟨o, ho⟩
  · obtain ⟨o, es, ep, ho, r⟩ := dd
    exact ⟨o, es, ep, st o ho, r⟩
theorem DN.un (ok : ObjOk P w H h a (DN P w a kvs)) : kvs.length ≤ sizeLine ∧ (a == sysModules) = false ∧ ∃ vs, KV kvs vs ∧ h.DictOf (noneKind P w) a vs := ok.1
theorem DN.rd (ok : HOk P w H h) (e : Rd H a (DN P w a kvs)) : kvs.length ≤ sizeLine ∧ (a == sysModules) = false ∧ ∃ vs, KV kvs vs ∧ h.DictOf (noneKind P w) a vs := DN.un (e.ok ok)
theorem DN.mut {P : Program} {w : World} {a : Addr} {kvs : List (NK × V)} : Mut (some (DN P w a kvs)) := True.intro
end
section
variable {X : Cx} {pins : List (Addr × Obj)} {σ : L2.St} {H : Hp} {s : Shared} {a : Addr} {v d : V} {u r : Value} {k : NK} {kvs : List (NK × V)} {A : Around} {E : Value → Shared → Prop}
theorem n_getItem {Q : Value → Shared → Prop} (I : Inv X pins σ H s) (e : Rd H a (DN X.prog X.w a kvs)) (ry : RelV (nV k) u) (l : valV kvs k = some v) (h : ∀ x s', Inv X pins σ H s' → RelV v x → Q x s') :
    wpAny (model X.prog X.w) A (getItem (.ref a) u) Q E s := by
  obtain ⟨_, _, vs, rel, dd⟩ := DN.rd (kvs := kvs) I.hok e
  have rv := rel.val k
  rw [l] at rv
  obtain ⟨x, hx, rx⟩ := RelO.some_of rv
  exact wpAny_getItem_of (nV_is ry) dd.mapOf hx (h x _ (I.tok _) rx)
theorem n_in {Q : Value → Shared → Prop} (I : Inv X pins σ H s) (e : Rd H a (DN X.prog X.w a kvs)) (ry : RelV (nV k) u) (h : ∀ s', Inv X pins σ H s' → Q (.bool (valV kvs k).isSome) s') :
    wpAny (model X.prog X.w) A (compareOp .In u (.ref a)) Q E s := by
  obtain ⟨_, hd, vs, rel, dd⟩ := DN.rd (kvs := kvs) I.hok e
  refine wpAny_in_of (nV_is ry) hd dd.mapOf ?_
  have e2 := (rel.val k).isSome_eq
  rw [← e2]
  exact h _ (I.tok _)
theorem n_get2 {Q : Value → Shared → Prop} (I : Inv X pins σ H s) (e : Rd H a (DN X.prog X.w a kvs)) (ry : RelV (nV k) u) (rd : RelV d r) (h : ∀ x s', Inv X pins σ H s' → RelV ((valV kvs k).getD d) x → Q x s') :
    wpAny (model X.prog X.w) A (call (.builtin "dict.get") [.ref a, u, r]) Q E s := by
  obtain ⟨_, hd, vs, rel, dd⟩ := DN.rd (kvs := kvs) I.hok e
  have m := meets_dict_get_default (noneKind X.prog X.w) a (nV_is ry) hd r
  exact call_meetsIn PySem.F.slot_dict_get dd.typeIs PySem.F.entry_dict_get (PySem.F.args_dict_get_3 _ _ _) m ⟨_, dd.mapOf, h _ _ (I.tok _) ((rel.val k).getD rd)⟩
/-- the dict's object is another one now -/
theorem n_write {h' : Heap} {t' : Nat} {ms : List (NK × V)} {us : List (NK × Value)} (I : Inv X pins σ H s) (mu : Mut (H a)) (sb : Heap.SameBut a s.heap h') (z : ms.length ≤ sizeLine) (hd : (a == sysModules) = false) (rel : KV ms us) (dd : h'.DictOf (noneKind X.prog X.w) a us) :
    Inv X pins σ (upd H a (DN X.prog X.w a ms)) { s with heap := h', toks := t' } := by
  have ob : ∃ q, h'.get? a = some q := by
    obtain ⟨q, _, _, hq, _⟩ := dd
    exact ⟨q, hq⟩
  exact d_write I mu sb ob (DN.mk z hd rel dd)
theorem n_setItem {Q : Unit → Shared → Prop} (I : Inv X pins σ H s) (e : H a = some (DN X.prog X.w a kvs)) (hz : kvs.length < sizeLine) (ry : RelV (nV k) u) (rv : RelV v r)
    (h : ∀ s', Inv X pins σ (upd H a (DN X.prog X.w a (putK kvs k v))) s' → Q () s') : wpAny (model X.prog X.w) A (setItem (.ref a) u r) Q E s := by
  obtain ⟨_, hd, vs, rel, dd⟩ := DN.rd (kvs := kvs) I.hok (.inl e)
  have l1 := length_putK kvs k v
  have l2 : vs.length ≤ sizeLine := by
    rw [← rel.length]
    omega
  have mu : Mut (H a) := by
    rw [e]
    exact DN.mut
  exact wpAny_setItem_pairs (hsz := l2) (nV_is ry) dd fun h' d2 sb => h _ (n_write I mu sb (by omega) hd (rel.put k rv) d2)
theorem n_dictSet {Q : Unit → Shared → Prop} (I : Inv X pins σ H s) (e : H a = some (DN X.prog X.w a kvs)) (hz : kvs.length < sizeLine) (ry : RelV (nV k) u) (rv : RelV v r)
    (h : ∀ s', Inv X pins σ (upd H a (DN X.prog X.w a (putK kvs k v))) s' → Q () s') : wpAny (model X.prog X.w) X.A (dictSet a u r) Q E s := by
  obtain ⟨_, hd, vs, rel, dd⟩ := DN.rd (kvs := kvs) I.hok (.inl e)
  have l1 := length_putK kvs k v
  have l2 : vs.length ≤ sizeLine := by
    rw [← rel.length]
    omega
  have mu : Mut (H a) := by
    rw [e]
    exact DN.mut
  exact wpAny_dictSet_pairs (hsz := l2) (nV_is ry) dd fun h' d2 sb => h _ (n_write I mu sb (by omega) hd (rel.put k rv) d2)
theorem n_kind (I : Inv X pins σ H s) (e : Rd H a (DN X.prog X.w a kvs)) : s.TypeIs (.ref a) "dict" ∧ ∀ b, Value.ref a = .ref b → ∃ ob, s.heap.get? b = some ob ∧ ob.dict = none := by
  obtain ⟨_, _, vs, _, dd⟩ := DN.rd (kvs := kvs) I.hok e
  refine ⟨dd.typeIs, fun b q => ?_⟩
  cases q
  obtain ⟨ob, _, _, h1, h2, _⟩ := dd
  exact ⟨ob, h1, h2.2.1⟩
end
/-! readings -/
def tNNew (X : Cx) : TE := fun _ H Q => ∀ p, H p = none → Q (.ref p) (upd H p (DN X.prog X.w p []))
def tNGet (X : Cx) (td ty : TE) : TE := fun σ H Q => td σ H fun x H1 => ty σ H1 fun y H2 => ∃ a kvs k v, x = .ref a ∧ Rd H2 a (DN X.prog X.w a kvs) ∧ y = nV k ∧ valV kvs k = some v ∧ Q v H2
def tNIn (X : Cx) (ty td : TE) : TE := fun σ H Q => ty σ H fun y H1 => td σ H1 fun x H2 => ∃ a kvs k, x = .ref a ∧ Rd H2 a (DN X.prog X.w a kvs) ∧ y = nV k ∧ Q (.bl (valV kvs k).isSome) H2
def tNGet2 (X : Cx) (td ty tx : TE) : TE := fun σ H Q => td σ H fun x H1 => ∃ a kvs, x = .ref a ∧ Rd H1 a (DN X.prog X.w a kvs) ∧ ty σ H1 fun y H2 => tx σ H2 fun z H3 => ∃ kvs k, Rd H3 a (DN X.prog X.w a kvs) ∧ y = nV k ∧ Q ((valV kvs k).getD z) H3
def sNPut (X : Cx) (td ty tv : TE) : TS := fun D σ H => tv σ H fun v H1 => td σ H1 fun x H2 => ty σ H2 fun y H3 => ∃ a kvs k, x = .ref a ∧ H3 a = some (DN X.prog X.w a kvs) ∧ y = nV k ∧ kvs.length < sizeLine ∧ D.nx σ (upd H3 a (DN X.prog X.w a (putK kvs k v)))
section
variable {X : Cx} {o i e f value : Expr} {pos pos' apos cpos : Pos} {td ty tx tv : TE}
theorem pe_nnew : PE X (.Dict [] [] pos) (tNNew X) := by
  refine ⟨fun pins s σ H Q I h => ?_⟩
  refine thn (pe_dnewK.run pins s σ H (fun v H1 => ∃ p, v = .ref p ∧ H p = none ∧ H1 = upd H p (.dK [])) I fun p hp => ⟨p, rfl, hp, rfl⟩) fun u s1 ⟨v, H1, I1, rv, p, ev, hp, eH⟩ => ?_
  subst ev eH
  obtain ⟨z, hd, vs, rel, dd⟩ := dk_of (kvs := []) I1.hok upd_same
  have e0 : vs = [] := by cases rel; rfl
  subst e0
  have d2 : s1.heap.DictOf (noneKind X.prog X.w) p [] := by
    obtain ⟨ob, es, ep, h1, h2, h3, h4, h5, h6⟩ := dd
    have e1 : es = #[] := by
      have l := h5.length
      simp at l
      exact l
    subst e1
    exact ⟨ob, #[], ep, h1, h2, h3, fun q hq => absurd hq (by simp), .nil, List.nodup_nil⟩
  have I2 : Inv X pins σ (upd (upd H p (.dK [])) p (DN X.prog X.w p [])) s1 := n_write (t' := s1.toks) I1 (by rw [upd_same]; exact True.intro) ⟨rfl, fun b _ => rfl⟩ z hd .nil d2
  rw [upd_upd] at I2
  exact ⟨.ref p, _, I2, rv, h p hp⟩
theorem pe_nget (ho : PE X o td) (hi : PE X i ty) (hs : NoSl i) : PE X (.Subscript o i pos) (tNGet X td ty) := by
  refine ⟨fun pins s σ H Q I h => subD_of PySem.F.slot_dict_getitem.lookup hs (thn (ho.run pins s σ H _ I h) fun u s1 ⟨x, H1, I1, rx, q1⟩ => thn (hi.run pins s1 σ H1 _ I1 q1) fun j s2 ⟨y, H2, I2, ry, q2⟩ => ?_)⟩
  obtain ⟨a, kvs, k, v, ex, e2, ey, l, q⟩ := q2
  subst ex ey
  cases (show u = Value.ref a from rx)
  exact ⟨(n_kind I2 e2).1, n_getItem I2 e2 ry l fun x s3 I3 r3 => ⟨v, H2, I3, r3, q⟩⟩
theorem pc_nin (hi : PE X i ty) (ho : PE X o td) : PC X .In i o (tNIn X ty td) := by
  refine ⟨fun pins s σ H Q I h => thn (hi.run pins s σ H _ I h) fun j s1 ⟨y, H1, I1, ry, q1⟩ => thn (ho.run pins s1 σ H1 _ I1 q1) fun u s2 ⟨x, H2, I2, rx, q2⟩ => ?_⟩
  obtain ⟨a, kvs, k, ex, e2, ey, q⟩ := q2
  subst ex ey
  cases (show u = Value.ref a from rx)
  exact n_in I2 e2 ry fun s3 I3 => ⟨.bl _, H2, I3, rfl, q⟩
theorem pe_nget2 (ho : PE X o td) (he : PE X e ty) (hf : PE X f tx) (m : M2 X o "get" apos e f cpos) : PE X (.Call (.Attribute o "get" apos) [e, f] [] cpos) (tNGet2 X td ty tx) := by
  refine ⟨fun pins s σ H Q I h => wpAny_Call_method m.base m.few m.line PySem.F.plainAttrs_dict PySem.F.slot_dict_get PySem.F.type_dict_get (thn (ho.run pins s σ H _ I h) fun u s1 ⟨x, H1, I1, rx, q1⟩ => ?_)⟩
  obtain ⟨a, kvs, ex, e1, q1⟩ := q1
  subst ex
  cases (show u = Value.ref a from rx)
  have kd := n_kind (kvs := kvs) I1 e1
  refine ⟨kd.1, kd.2, ?_⟩
  rw [m.trees]
  refine Calls.callWith_builtin rfl (Calls.evalArgs_plain (Calls.spliced_cons (thn (he.run pins s1 σ H1 _ I1 q1) fun j s2 ⟨y, H2, I2, ry, q2⟩ => Calls.spliced_cons (thn (hf.run pins s2 σ H2 _ I2 q2) fun g s3 ⟨z, H3, I3, rz, q3⟩ => Calls.spliced_nil ?_))))
  obtain ⟨ms, k, e3, ey, q⟩ := q3
  subst ey
  exact n_get2 I3 e3 ry rz fun x s4 I4 r4 => ⟨_, H3, I4, r4, q⟩
theorem ps_nput (ho : PE X o td) (hi : PE X i ty) (hv : PE X value tv) (hs : swapsWith value (some (.Subscript o i pos')) pos.line X.env = pure false) : PS X (.Assign [.Subscript o i pos'] value pos) (sNPut X td ty tv) := by
  refine ⟨fun pins s σ H D I h => wpAny_Assign_Subscript (thn (hv.run pins s σ H _ I h) fun r s1 ⟨v, H1, I1, rv, q1⟩ => thn (ho.run pins s1 σ H1 _ I1 q1) fun u s2 ⟨x, H2, I2, rx, q2⟩ => thn (hi.run pins s2 σ H2 _ I2 q2) fun j s3 ⟨y, H3, I3, ry, q3⟩ => ?_) hs⟩
  obtain ⟨a, kvs, k, ex, e3, ey, hz, q⟩ := q3
  subst ex ey
  cases (show u = Value.ref a from rx)
  exact n_setItem I3 e3 hz ry rv fun s4 I4 => ⟨σ, _, I4, q⟩
end
/-! for k in d -/
/-- what the lock tells of it -/
theorem n_lock {X : Cx} {pins : List (Addr × Obj)} {σ : L2.St} {H : Hp} {s : Shared} {d : Addr} {o : Obj} {kvs : List (NK × V)} (I : Inv X pins σ H s) (h : H d = some (.frz o (DN X.prog X.w d kvs))) :
    (d == sysModules) = false ∧ s.heap.get? d = some o ∧ o.ExactDict ∧ ∃ (es : Array DictEntry) (ep : Nat) (vs : List (NK × Value)), o.data = .dict es ep ∧ es.size = kvs.length ∧ KV kvs vs ∧ s.heap.DictAt (noneKind X.prog X.w) d vs ep := by
  have q := I.hok d _ h
  obtain ⟨_, z, vs, kv, dd⟩ := DN.un q.2
  have hd : s.heap.get? d = some o := q.1
  obtain ⟨ob, es, ep, h1, h2, h3, r⟩ := dd
  rw [hd] at h1
  cases h1
  have n1 := r.2.1.length
  have n2 : kvs.length = vs.length := Paired.length kv
  rw [Array.length_toList] at n1
  exact ⟨z, hd, h2, es, ep, vs, h3, n1.trans n2.symm, kv, o, es, hd, h2, h3, r⟩
def Itn (P : Program) (w : World) (d : Addr) (o : Obj) (kvs : List (NK × V)) : It where
  go i H := H d = some (.frz o (DN P w d kvs)) ∧ i < kvs.length
  yld i H x H' := H' = H ∧ ∃ k v, kvs[i]? = some (k, v) ∧ x = nV k
  stop i H := H d = some (.frz o (DN P w d kvs)) ∧ kvs.length ≤ i
theorem turn_n {P : Program} {w : World} {K : PySem.W.Frag} {tg : Expr} {d it : Addr} {o : Obj} {es : Array DictEntry} {ep : Nat} {kvs : List (NK × V)} (hod : o.data = .dict es ep) : Turn P w K tg (Itn P w d o kvs) [it] it (fun i h => h.IsKeyIter it d i kvs.length ep) where
  mem := List.mem_singleton.mpr rfl
  obj i h st b hb := by
    rw [List.mem_singleton.mp hb]
    obtain ⟨oi, e, _, dd⟩ := st
    refine ⟨oi, e, fun v z => ?_⟩
    rw [dd] at z
    cases z
  keep i h h' st k := st.at (k it (List.mem_singleton.mpr rfl))
  item := by
    rintro X rfl rfl rfl hc i pins s σ H E I hf st ⟨hd, hi⟩
    have F := hf it (List.mem_singleton.mpr rfl)
    obtain ⟨_, _, _, es2, ep2, vs, h3, _, kv, at_⟩ := n_lock I hd
    cases (dict_ep hod h3).2
    have hkv : kvs[i]? = some (kvs[i].1, kvs[i].2) := List.getElem?_eq_getElem hi
    obtain ⟨u, hu, _⟩ := kv_get kv hkv
    have n : kvs.length = vs.length := Paired.length kv
    rw [n] at st
    refine wpAny_pyNext_dict_item st at_ hu fun key h2 hk st2 sb => ?_
    have I2 := I.turned (h' := h2) (t' := s.toks) (fun b ob hb e => (sb.2 b hb).trans e) F.1 F.2.1 F.2.2.2.1 F.2.2.2.2.1 F.2.2.2.2.2
    obtain ⟨oi, e, c, dd⟩ := id st2
    refine ⟨key, rfl, go_of (s := { s with heap := h2 }) e c dd (by decide) ⟨nV kvs[i].1, H, I2, nV_rel hk, ⟨rfl, _, _, hkv, rfl⟩, ?_, fun b hb => (hf b hb).1⟩⟩
    show h2.IsKeyIter it d (i + 1) kvs.length _
    rw [n]
    exact st2
  done := by
    rintro X rfl rfl rfl hc i pins s σ H E I hf st ⟨hd, hi⟩
    have F := hf it (List.mem_singleton.mpr rfl)
    obtain ⟨_, hg, _, es2, ep2, vs, h3, sz, _, _⟩ := n_lock I hd
    cases (dict_ep hod h3).2
    exact next_key_end (I.ok.hd hc) st hg h3 sz hi fun h2 eb => ⟨rfl, I.turned (t' := s.toks) (fun b ob hb e => eb b ob hb e) F.1 F.2.1 F.2.2.2.1 F.2.2.2.2.1 F.2.2.2.2.2⟩
  self A i s Q E st h := wpAny_pyIter_keyiter st h
/-- the dict is locked by the caller -/
def iNk (X : Cx) (td : TE) : TI := fun σ H R => td σ H fun x H1 => ∃ d o kvs, x = .ref d ∧ H1 d = some (.frz o (DN X.prog X.w d kvs)) ∧ R (Itn X.prog X.w d o kvs) H1
theorem pi_nk {X : Cx} {tg e : Expr} {td : TE} (he : PE X e td) : PI X tg e (iNk X td) := by
  refine ⟨fun pins s σ H R I h => thn (he.run pins s σ H _ I h) fun u s1 ⟨x, H1, I1, rx, q⟩ => ?_⟩
  obtain ⟨d, o, kvs, ex, hd, q⟩ := q
  subst ex
  cases (show u = Value.ref d from rx)
  obtain ⟨z, hg, hx, es, ep, vs, h3, sz, _, _⟩ := n_lock I1 hd
  refine iter_keys z hg hx h3 (pi_one (tk := s1.toks) I1 _ (turn_n h3) ⟨_, Heap.get?_push_size _ rfl, rfl, ?_⟩ q)
  rw [sz]
  rfl
end KZ
end

section
set_option Elab.async false
set_option linter.all false
set_option maxRecDepth 100000
set_option maxHeartbeats 4000000
/-! a dict by a comprehension, None among its keys -/
namespace KZ
open PySem PySem.Spec PyProof.Rows L2
section
variable {X : Cx}
/-- one turn of {k: v for target in iter if ..} into the dict at D; Nx: what the next turn asks -/
def tNTurn (X : Cx) (D : Addr) (tt : TT) (tk tv : TE) (Nx : Hp → Prop) : L2.St → Hp → Prop := fun σ H =>
  tt σ H fun b H3 => if b = true then tk σ H3 fun y H4 => tv σ H4 fun z H5 => ∃ kvs k, y = nV k ∧ H5 D = some (DN X.prog X.w D kvs) ∧ kvs.length < sizeLine ∧ Nx (upd H5 D (DN X.prog X.w D (putK kvs k z))) else Nx H3
def tDn (X : Cx) (wi : TI) (g : TG) (tt : TT) (tk tv : TE) (vs : List Nat) : TE := fun σ H Q => wi σ H fun J H1 => ∀ D, H1 D = none →
  ∃ W : Nat → Nat → Hp → Prop, (∃ m, W 0 m (upd H1 D (DN X.prog X.w D []))) ∧ ∀ i m H, W i m H → (J.stop i H ∧ Q (.ref D) H) ∨
    (J.go i H ∧ ∃ Nx : Hp → Prop, (∀ H', Nx H' → ∃ m', m' < m ∧ W (i + 1) m' H') ∧ ∀ x H', J.yld i H x H' → g x (wipe σ vs) H' fun σ2 H2 => wipe σ2 vs = wipe σ vs ∧ tNTurn X D tt tk tv Nx σ2 H2)
theorem dn_empty {P : Program} {w : World} {H : Hp} (h : Heap) (hb : sysModules < h.objs.size) : ObjOk P w H (h.push { cls := .type "dict", data := .dict #[] }) h.objs.size (DN P w h.objs.size []) :=
  DN.mk (vs := []) (Nat.zero_le _) (beq_eq_false_iff_ne.mpr fun z => Nat.lt_irrefl _ (z ▸ hb)) .nil (Heap.DictOf.new h)
/-- {k: v for target in iter if ..} -/
theorem pe_dcN {kx vx tg iter : Expr} {ifs : List Expr} {scope : Scope} {own : List (Str × Nat)} {pos : Pos} {wi : TI} {g : TG} {tt : TT} {tk tv : TE} (calm : X.calm = true) (nd : X.N.Nodup) (it_ : PI X tg iter wi) (blk : BlkOk X.N X.env.scope scope own)
    (p1 : ∀ (s : Shared) (H : Hp) (C : Addr) (cl : List (Str × Addr)) (fp : List Addr), PG (X.blk s H scope (compEnvC scope cl C X.env) fp) tg g)
    (p2 : ∀ (s : Shared) (H : Hp) (C : Addr) (cl : List (Str × Addr)) (fp : List Addr), PTs (X.blk s H scope (compEnvC scope cl C X.env) fp) ifs tt)
    (p3 : ∀ (s : Shared) (H : Hp) (C : Addr) (cl : List (Str × Addr)) (fp : List Addr), PE (X.blk s H scope (compEnvC scope cl C X.env) fp) kx tk)
    (p4 : ∀ (s : Shared) (H : Hp) (C : Addr) (cl : List (Str × Addr)) (fp : List Addr), PE (X.blk s H scope (compEnvC scope cl C X.env) fp) vx tv)
    (fold : ∀ x, foldedSetIterable iter X.env x = pure x := by intro _; rfl) : PE X (.DictComp kx vx [⟨tg, iter, ifs, 0⟩] scope pos) (tDn X wi g tt tk tv (own.map (·.2))) := by
  refine ⟨fun pins s σ H Q I hQ => ?_⟩
  rw [arm_eval_DictComp]
  have free_ : ∀ y ∈ scope.names, y.2 = .free → ∃ c, X.env.cells.lookup y.1 = some c := by
    intro y hy e
    exact I.ok.has _ (blk.free y hy e)
  refine wpAny_comprehension_free (use := none) rfl fold (closure_ok free_) blk.kind (fun y hy e => by rw [blk.uniq y hy, e]) (thn (it_.run pins s σ H _ I hQ) fun xv s1 y1 => thn y1 fun itv s2 y2 => ?_)
  obtain ⟨it, fp, tn, J, H2, rfl, I2, T, st2, f2, q⟩ := y2
  refine wpAny_newObj_type (newEnv_comp ?_)
  generalize eD : s2.heap.objs.size = D
  obtain ⟨W, ⟨m0, w0⟩, turn⟩ := q D (I2.hok.fresh (Nat.le_of_eq eD))
  generalize e3 : ({ s2 with heap := s2.heap.push { cls := .type "dict", data := .dict #[] } } : Shared) = s3
  have heap3 : s3.heap = s2.heap.push { cls := .type "dict", data := .dict #[] } := e3 ▸ rfl
  generalize eH : upd H2 D (DN X.prog X.w D []) = H3 at w0
  have I3 : Inv X pins σ H3 s3 := by
    subst e3 eH eD
    exact I2.laid (t' := s2.toks) (fun b o e => Heap.get?_push_of_some _ e) (Nat.le_refl _) (dn_empty s2.heap I2.big)
  have low : ∀ b ∈ fp, b < s2.heap.objs.size := by
    intro b hb
    obtain ⟨o, e, _⟩ := T.obj _ _ st2 b hb
    exact Heap.lt_size e
  have f3 : ∀ b ∈ fp, FpOk X pins H3 b ∧ b < s3.heap.objs.size := by
    intro b hb
    have l := low b hb
    have z := f2 b hb
    refine ⟨⟨?_, z.2⟩, ?_⟩
    · rw [← eH, upd_ne (fun y => Nat.lt_irrefl _ (by rw [y, eD] at l; exact l))]
      exact z.1
    · rw [heap3, Heap.size_push]
      exact Nat.lt_succ_of_lt l
  have st3 : tn 0 s3.heap := T.keep _ _ _ st2 fun b _ o e => heap3 ▸ Heap.get?_push_of_some _ e
  have none3 : ∀ b ∈ fp, H3 b = none := fun b hb => (f3 b hb).1.1
  have I4 := block_start I3 blk nd f3
  generalize ecl : cellsFrom (s3.heap.objs.size + 1) scope.names (cloFrom X.env.cells scope.names []) = cl at I4
  have g1 := p1 s3 H3 s3.heap.objs.size cl fp
  have g2 := p2 s3 H3 s3.heap.objs.size cl fp
  have g3 := p3 s3 H3 s3.heap.objs.size cl fp
  have g4 := p4 s3 H3 s3.heap.objs.size cl fp
  have eL : (compEnvC scope cl s3.heap.objs.size X.env).locals = s3.heap.objs.size := rfl
  generalize eE : compEnvC scope cl s3.heap.objs.size X.env = env at I4 g1 g2 g3 g4 eL
  generalize e4 : ({ s3 with heap := pushCells (s3.heap.push { cls := .type "dict", data := .dict #[] }) scope.names } : Shared) = s4 at I4
  have st4 : tn 0 s4.heap := T.keep _ _ _ st3 fun b _ o e => e4 ▸ pushCells_keeps _ _ _ _ (Heap.get?_push_of_some _ e)
  let B := X.blk s3 H3 scope env fp
  have held : ∀ {σ' : L2.St} {H' : Hp} {s' : Shared}, Inv B [] σ' H' s' → (∀ b ∈ fp, H' b = none) → ∀ b ∈ fp, FpOk B [] H' b := by
    intro σ' H' s' J' n b hb
    have z := J'.ok.exf b hb
    exact ⟨n b hb, z.1, J'.ok.exfs b hb, .inl hb, fun x c e => z.2 x c e, fun p hp => nomatch (show p ∈ ([] : List (Addr × Obj)) from hp)⟩
  have post : codeAny (model X.prog X.w) X.A (.compLoop (.DictComp kx vx [⟨tg, iter, ifs, 0⟩] scope pos) 0 (.ref it) (.ref D) env) (compPost (model X.prog X.w) X.A X.xe none (EP X pins σ Q) (.ref D) s3.heap.objs.size) s4 := by
    refine compLoop_anyD (fun n s' => ∃ i H', Inv B [] (wipe σ (own.map (·.2))) H' s' ∧ tn i s'.heap ∧ (∀ b ∈ fp, H' b = none) ∧ W i n H') ?_ m0 ⟨0, H3, I4, st4, none3, w0⟩
    rintro n s5 ⟨i, H5, I5, st5, n5, w5⟩
    rcases turn i n H5 w5 with ⟨stop, qq⟩ | ⟨go, Nx, hNx, step⟩
    · refine thnF (T.done B rfl rfl rfl calm i [] s5 _ H5 (fun _ _ => False) I5 (held I5 n5) st5 stop) fun r s6 y6 => ?_
      obtain ⟨rfl, I6⟩ := y6
      have I7 : Inv X pins σ H5 s6 := by
        refine I3.call' (ch := fp) I6.os I6.base I6.hok I6.bare fun b hb => ?_
        have z := (f3 b hb).1.2
        exact ⟨z.2.2.1, z.1, z.2.2.2.1, z.2.2.2.2⟩
      have nC : H5 s3.heap.objs.size = none := eL ▸ I6.free
      obtain ⟨m, hn, _⟩ := I6.loc
      have fC := I3.fpOk (Nat.le_refl _) nC
      refine ⟨m, eL ▸ hn, fun h2 sb => ?_⟩
      exact ⟨.ref D, H5, I7.turned (t' := s6.toks) (fun b o hb e => (sb.2 b hb).trans e) fC.1 fC.2.1 fC.2.2.2.1 fC.2.2.2.2.1 fC.2.2.2.2.2, rfl, qq⟩
    · refine thnF (T.item B rfl rfl rfl calm i [] s5 _ H5 (fun _ _ => False) I5 (held I5 n5) st5 go) fun r s6 y6 => ?_
      obtain ⟨u, rfl, y6⟩ := y6
      refine thnF y6 fun _ s7 y7 => ?_
      obtain ⟨x, H7, I7, r7, yl, st7, n7⟩ := y7
      have P7 := I7.pinned (held I7 n7) (T.obj _ _ st7)
      refine thnF (g1.run _ s7 _ H7 x u _ P7 r7 (step x H7 yl)) fun _ s8 y8 => ?_
      obtain ⟨σ8, H8, I8, w8, y8⟩ := y8
      refine thnF (g2.run _ s8 σ8 H8 _ I8 y8) fun b s9 y9 => ?_
      obtain ⟨H9, I9, y9⟩ := y9
      have len8 : (wipe σ (own.map (·.2))).length = σ8.length := by rw [← w8, wipe_length]
      have next : ∀ {s' : Shared} {H' : Hp}, Inv B ([] ++ pinsAt fp s7.heap) σ8 H' s' → Nx H' → ∃ m, m < n ∧ ∃ i H', Inv B [] (wipe σ (own.map (·.2))) H' s' ∧ tn i s'.heap ∧ (∀ b ∈ fp, H' b = none) ∧ W i m H' := by
        intro s' H' I' nx
        obtain ⟨k, hk, w'⟩ := hNx H' nx
        have pin : ∀ b ∈ fp, ∀ o, s7.heap.get? b = some o → s'.heap.get? b = some o ∧ H' b = none := by
          intro b hb o e
          have z := I'.pin (b, o) (List.mem_append_right _ (List.mem_append_right _ (mem_pinsAt hb e)))
          exact ⟨z.1, z.2.1⟩
        refine ⟨k, hk, i + 1, H', (I'.unpinned (pins := [])).weak len8 ?_, T.keep _ _ _ st7 fun b hb o e => (pin b hb o e).1, ?_, w'⟩
        · intro j v e
          rw [← w8] at e
          exact (wipe_some e).1
        · intro b hb
          obtain ⟨o, e, _⟩ := T.obj _ _ st7 b hb
          exact (pin b hb o e).2
      cases b with
      | false => exact next I9 y9
      | true =>
        refine thnF (g3.run _ s9 σ8 H9 _ I9 y9) fun z s10 y10 => ?_
        obtain ⟨yk, H10, I10, r10, y10⟩ := y10
        refine thnF (g4.run _ s10 σ8 H10 _ I10 y10) fun z2 s11 y11 => ?_
        obtain ⟨yv, H11, I11, r11, kvs, k, ek, eD11, hz, nx⟩ := y11
        subst ek
        exact n_dictSet (X := B) I11 eD11 hz r10 r11 fun s12 I12 => next I12 nx
  subst eE ecl e4
  exact codeAny_compStart_dict post (T.self X.A 0 _ _ _ st4 post)
end
end KZ
end

section
set_option Elab.async false
set_option linter.all false
set_option maxRecDepth 100000
set_option maxHeartbeats 4000000
/-! the top's run, its plain steps without the looks that say nothing of them -/
noncomputable section
namespace KZ
open PySem PySem.W PySem.Calls PyProof.Rows HandSHeadRun
/-- one step of any kind, with all looks -/
def oneG (st : SharedT → Thread → Option (SharedT × Thread)) (n0 : Nat) (ann : Option Value) (on : SharedT → Thread → Option SharedT) (s : SharedT) (t : Thread) : Option SharedT :=
  match through t with
  | true => some s
  | false => match stepOk n0 ann t with
    | false => none
    | true => match st s t with
      | some (s', t') => frS s' fun s' => on s' t'
      | none => none
/-- what a frame keeps of a call -/
def keptBy (called code : Code) (lv : List Value) : List Value :=
  match called, code with
  | .builtin _ x, _ => unmarked x.refs
  | .call g x, .builtin _ _ => unmarked (if lv.contains borrowed then x.refs else g :: x.refs)
  | .call g x, .call _ _ => unmarked (if lv.contains borrowed then x.refs else g :: x.refs)
  | _, _ => []
/-- one step; on: what follows it -/
def oneH (st : SharedT → Thread → Option (SharedT × Thread)) (den : Code → Sem Fin) (p : Program) (w : World) (n0 : Nat) (ann : Option Value) (on : SharedT → Thread → Option SharedT) : SharedT → Thread → Option SharedT
  | ⟨T, n, life, gens, drawn, toks, os⟩, ⟨cur, code, pos, stack⟩ => match cur with
    | .rule _ k => on ⟨T, n, life, gens, drawn, toks, os⟩ ⟨k (), code, pos, stack⟩
    | .at q k => on ⟨T, n, life, gens, drawn, toks, os⟩ ⟨k (), code, q, stack⟩
    | .point _ k => on ⟨T, n, life, gens, drawn, toks, os⟩ ⟨k (), code, pos, stack⟩
    | .ask k => on ⟨T, n, life, gens, drawn, toks, os⟩ ⟨k ⟨p, w.params⟩, code, pos, stack⟩
    | .fresh k => frNat (toks + 1) fun m => on ⟨T, n, life, gens, drawn, m, os⟩ ⟨k toks, code, pos, stack⟩
    | .load a _ k => match Nat.blt a n with
      | true => match T.get a with
        | some o => match alive o with
          | some u => on ⟨T, n, life, gens, drawn, toks, os⟩ ⟨k u, code, pos, stack⟩
          | none => none
        | none => none
      | false => none
    | .alloc o k => match ((T.ins n o).get n).isSome with
      | true => frNat (n + 1) fun m => on ⟨T.ins n o, m, life, gens, drawn, toks, os⟩ ⟨k n, code, pos, stack⟩
      | false => none
    | .call c h g l k => on ⟨T, n, life, gens, drawn, toks, os⟩ ⟨den c, c, pos, .ret k h g l code pos (keptBy c code l) :: stack⟩
    | .pure (.done f) => match stack with
      | .ret k _ _ _ c p _ :: rest => on ⟨T, n, life, gens, drawn, toks, os⟩ ⟨k (.ok f), c, p, rest⟩
      | [] => some ⟨T, n, life, gens, drawn, toks, os⟩
      | .gen a k l c p :: rest => oneG st n0 ann on ⟨T, n, life, gens, drawn, toks, os⟩ ⟨.pure (.done f), code, pos, .gen a k l c p :: rest⟩
    | .update a _ f k => match Nat.ble n0 a || a == mainNs || a == cStatics || ann == some (.ref a) with
      | true => match Nat.blt a n with
        | true => match T.get a with
          | some o => match alive o with
            | some _ => on ⟨T.set a f, n, life, gens, drawn, toks, os⟩ ⟨k (), code, pos, stack⟩
            | none => none
          | none => none
        | false => none
      | false => none
    | c => oneG st n0 ann on ⟨T, n, life, gens, drawn, toks, os⟩ ⟨c, code, pos, stack⟩
def goH (st : SharedT → Thread → Option (SharedT × Thread)) (den : Code → Sem Fin) (p : Program) (w : World) (n0 : Nat) (ann : Option Value) (m : Nat) : SharedT → Thread → Option SharedT :=
  Nat.rec (motive := fun _ => SharedT → Thread → Option SharedT) (fun _ _ => none) (fun _ on s t => oneH st den p w n0 ann on s t) m
theorem goF_one (st : SharedT → Thread → Option (SharedT × Thread)) (n0 : Nat) (ann : Option Value) (m : Nat) (s : SharedT) (t : Thread) : goF st n0 ann (m + 1) s t = oneG st n0 ann (goF st n0 ann m) s t := rfl
theorem oneG_mono {st : SharedT → Thread → Option (SharedT × Thread)} {n0 : Nat} {ann : Option Value} {f g : SharedT → Thread → Option SharedT} (h : ∀ s t r, f s t = some r → g s t = some r) {s : SharedT} {t : Thread} {r : SharedT} (e : oneG st n0 ann f s t = some r) : oneG st n0 ann g s t = some r := by
  unfold oneG at e ⊢
  cases a : through t with
  | true => rw [a] at e; exact e
  | false =>
    rw [a] at e
    cases b : stepOk n0 ann t with
    | false => rw [b] at e; cases e
    | true =>
      rw [b] at e
      cases c : st s t with
      | none => rw [c] at e; cases e
      | some x =>
        rw [c] at e
        obtain ⟨s2, t2⟩ := x
        simp only [frS_eq] at e ⊢
        exact h _ _ _ e
/-- a step that wants no look -/
theorem oneG_plain {den : Code → Sem Fin} {p : Program} {w : World} {n0 : Nat} {ann : Option Value} {g : SharedT → Thread → Option SharedT} {s s2 r : SharedT} {t t2 : Thread} (h1 : through t = false) (h2 : stepOk n0 ann t = true) (h3 : stepT den p w s t = some (s2, t2)) (e : g s2 t2 = some r) :
    oneG (stepT den p w) n0 ann g s t = some r := by
  unfold oneG
  rw [h1, h2, h3]
  simp only [frS_eq]
  exact e
theorem oneH_ok {den : Code → Sem Fin} {p : Program} {w : World} {n0 : Nat} {ann : Option Value} {f g : SharedT → Thread → Option SharedT} (h : ∀ s t r, f s t = some r → g s t = some r) {s : SharedT} {t : Thread} {r : SharedT} (e : oneH (stepT den p w) den p w n0 ann f s t = some r) :
    oneG (stepT den p w) n0 ann g s t = some r := by
  obtain ⟨T, n, life, gens, drawn, toks, os⟩ := s
  obtain ⟨cur, code, pos, stack⟩ := t
  have no : ∀ c : Sem Fin, (∀ x, c ≠ .pure x) → through ⟨c, code, pos, stack⟩ = false := by
    intro c hc
    unfold through
    cases c <;> first | exact Bool.and_false _ | exact absurd rfl (hc _)
  cases cur with
  | rule tag k => exact oneG_plain (no _ fun _ z => nomatch z) rfl rfl (h _ _ _ e)
  | «at» q k => exact oneG_plain (no _ fun _ z => nomatch z) rfl rfl (h _ _ _ e)
  | point l k => exact oneG_plain (no _ fun _ z => nomatch z) rfl rfl (h _ _ _ e)
  | ask k => exact oneG_plain (no _ fun _ z => nomatch z) rfl rfl (h _ _ _ e)
  | fresh k =>
    have e1 : (frNat (toks + 1) fun m => f ⟨T, n, life, gens, drawn, m, os⟩ ⟨k toks, code, pos, stack⟩) = some r := e
    rw [frNat_eq] at e1
    exact oneG_plain (no _ fun _ z => nomatch z) rfl rfl (h _ _ _ e1)
  | load a q k =>
    have e1 : (match Nat.blt a n with
      | true => match T.get a with
        | some o => match alive o with
          | some u => f ⟨T, n, life, gens, drawn, toks, os⟩ ⟨k u, code, pos, stack⟩
          | none => none
        | none => none
      | false => none) = some r := e
    cases a1 : Nat.blt a n with
    | false => rw [a1] at e1; cases e1
    | true =>
      rw [a1] at e1
      cases a2 : T.get a with
      | none => simp only [a2] at e1; cases e1
      | some o =>
        simp only [a2] at e1
        cases a3 : alive o with
        | none => simp only [a3] at e1; cases e1
        | some u =>
          simp only [a3] at e1
          refine oneG_plain (no _ fun _ z => nomatch z) rfl ?_ (h _ _ _ e1)
          simp only [stepT, a1, a2, a3]
  | alloc o k =>
    have e1 : (match ((T.ins n o).get n).isSome with
      | true => frNat (n + 1) fun m => f ⟨T.ins n o, m, life, gens, drawn, toks, os⟩ ⟨k n, code, pos, stack⟩
      | false => none) = some r := e
    cases a1 : ((T.ins n o).get n).isSome with
    | false => rw [a1] at e1; cases e1
    | true =>
      rw [a1] at e1
      simp only [frNat_eq] at e1
      refine oneG_plain (no _ fun _ z => nomatch z) rfl ?_ (h _ _ _ e1)
      simp only [stepT, a1]
  | call c hh g l k => exact oneG_plain (no _ fun _ z => nomatch z) rfl rfl (h _ _ _ e)
  | update a q f k =>
    cases a0 : (Nat.ble n0 a || a == mainNs || a == cStatics || ann == some (.ref a)) with
    | false => simp only [oneH, a0] at e; cases e
    | true =>
      cases a1 : Nat.blt a n with
      | false => simp only [oneH, a0, a1] at e; cases e
      | true =>
        cases a2 : T.get a with
        | none => simp only [oneH, a0, a1, a2] at e; cases e
        | some o =>
          cases a3 : alive o with
          | none => simp only [oneH, a0, a1, a2, a3] at e; cases e
          | some u =>
            simp only [oneH, a0, a1, a2, a3] at e
            refine oneG_plain (no _ fun _ z => nomatch z) ?_ ?_ (h _ _ _ e)
            · show (_ && (Nat.ble n0 a || a == mainNs || a == cStatics || ann == some (.ref a))) = true
              rw [a0]
              rfl
            · simp only [stepT, a1, a2, a3]
  | pure x =>
    cases x with
    | again c => exact oneG_mono h e
    | done f =>
      cases stack with
      | nil => exact e
      | cons fr rest =>
        cases fr with
        | gen a k l c p => exact oneG_mono h e
        | ret k a b l c p kp => exact oneG_plain rfl rfl rfl (h _ _ _ e)
  | _ => exact oneG_mono h e
theorem goH_ok {den : Code → Sem Fin} {p : Program} {w : World} {n0 : Nat} {ann : Option Value} : ∀ (m : Nat) {s : SharedT} {t : Thread} {r : SharedT}, goH (stepT den p w) den p w n0 ann m s t = some r → goF (stepT den p w) n0 ann m s t = some r
  | 0, _, _, _, e => nomatch (show (none : Option SharedT) = some _ from e)
  | m + 1, s, t, r, e => by
    rw [goF_one]
    exact oneH_ok (fun s t r => goH_ok m) e
/-- the state behind the top, from the boot -/
def endH (M : Nat) (p : Program) (w : World) (os : OsState) : Option SharedT := match putAll (boot_heap w.params).objs.toList .nil 0 with
  | some (t, n) => frNat n fun n0 => goH (stepQ (denQ tabQ) p w) (denQ tabQ) p w n0 (bootAnn w) M (bootT w os (t, n0)) (topStub p)
  | none => none
theorem endH_ok {M : Nat} {p : Program} {w : World} {os : OsState} {r : SharedT} (e : endH M p w os = some r) : endF (stepQ (denQ tabQ) p w) M p w os = some r := by
  unfold endH at e
  unfold endF
  rw [← stepQ_eq] at e ⊢
  cases a : putAll (boot_heap w.params).objs.toList .nil 0 with
  | none => rw [a] at e; cases e
  | some x =>
    rw [a] at e
    obtain ⟨t, n⟩ := x
    simp only [frNat_eq] at e ⊢
    exact goH_ok M e
/-- what is seen behind it -/
theorem endH_map {α : Type} {M : Nat} {p : Program} {w : World} {os : OsState} {F : SharedT → α} {v : α} (e : (endH M p w os).map F = some v) : ∃ r, endF (stepQ (denQ tabQ) p w) M p w os = some r ∧ F r = v := by
  obtain ⟨r, h1, h2⟩ := Option.map_eq_some_iff.mp e
  exact ⟨r, endH_ok h1, h2⟩
end KZ
end

section
set_option Elab.async false
set_option linter.all false
set_option maxRecDepth 100000
set_option maxHeartbeats 4000000
/-! == and != by an own __eq__, whatever it answers, whatever the other value is -/
namespace KZ
open PySem PySem.Spec PyProof.Rows L2
section
variable {prog : Program} {w : World} {A : Around} {E : Value → Shared → Prop} {s : Shared} {K : PySem.W.Frag} {x C f : Addr} {ox : Obj} {od : Option Obj} {b tb : Value}
/-- object.__ne__ of an instance with an own __eq__ -/
theorem ne_try {Q : Option Value → Shared → Prop} (hu : A.units + 1 < cLine) (X : K.In s.heap) (I : PySem.W.InstAt s.heap x ox C od) (hne : PySem.W.findIn K (.ref C) "__ne__" = some (some (.builtin "object.__ne__"))) (hob : PySem.W.mroIn K C (.type "object") = some true)
    (hs : PySem.W.findIn K (.ref C) "__eq__" = some (some (.ref f))) (hf : PySem.W.isFn K (.ref f) = true)
    (h : wpAny (model prog w) A.in1 (call (.ref f) [.ref x, b]) (fun v s' => ∃ r, v = .bool r ∧ Q (some (.bool (!r))) s') E s) : wpAny (model prog w) A (tryCompare (.ref x) "__ne__" b) Q E s := by
  have ins : PySem.W.Looks (model prog w) s.heap (isInstance (.ref x) (.type "object")) true := I.type.andThen (PySem.W.looks_subIn X (t := .ref C) hob)
  have body : wpAny (model prog w) A.in1 (Builtin.«object.__ne__» ⟨[.ref x, b], []⟩) (fun fin s' => match fin with
      | .done fl => ∃ v, fl = .ret v ∧ ∃ r, v = .bool (!r) ∧ Q (some (.bool (!r))) s'
      | .again _ => False) E s := by
    unfold Builtin.«object.__ne__»
    refine wpAny_bind (wpAny_pure ?_)
    refine wpAny_bind (wpAny_cRoomFor hu ?_)
    refine wpAny_bind (PySem.W.ifBound_K (args := [b]) X I hs hf (wpAny_mono h (fun v s' hv => ?_) fun _ _ e => e))
    obtain ⟨r, rfl, q⟩ := hv
    refine wpAny_bind (wpAny_truthy_bool ?_)
    exact wpAny_pure ⟨_, rfl, r, rfl, q⟩
  unfold tryCompare
  refine wpAny_bind ?_
  simp only [callSpecialIfBound?, bindSpecialIfBound?]
  refine wpAny_holding (wpAny_bind (wpAny_bind (wpAny_bind (I.type.here ((PySem.W.looks_findIn X hne).here ?_)))))
  simp only [F.cmp_object.ne.bind]
  have fin : wpAny (model prog w) A (call (.builtin "object.__ne__") ([.ref x] ++ [b]) >>= fun v => pure (some v)) (fun v s' => wpAny (model prog w) A (match v with
      | some .notImplemented | none => pure none
      | some v => pure (some v)) Q E s') E s := by
    refine wpAny_bind (wpAny_call (codeAny_call_builtin F.cmp_object.ne.plain F.cmpEntry_ne (PySem.W.check_slot F.cmpKind_ne F.cmpSplit_ne ins (F.cmpArgs_ne _ _) (wpAny_mono body (fun fl s' hq => ?_) fun _ _ e => e))))
    cases fl with
    | again c => exact hq.elim
    | done fl =>
      obtain ⟨v, rfl, r, rfl, q⟩ := hq
      exact wpAny_pure (wpAny_pure q)
  refine wpAny_bind (wpAny_askSetting (wpAny_ite ?_))
  split
  · exact wpAny_bind (wpAny_pure (wpAny_pure fin))
  · exact wpAny_tryCatch (wpAny_bind (wpAny_pure (wpAny_pure fin)))
/-- x != b, x an instance with an own __eq__ and no own __ne__ -/
theorem ne_own {Q : Value → Shared → Prop} (hu : A.units + 1 < cLine) (X : K.In s.heap) (I : PySem.W.InstAt s.heap x ox C od) (hb : PySem.W.Looks (model prog w) s.heap (typeOf b) tb) (hn : PySem.W.notFirst K C tb = true)
    (hne : PySem.W.findIn K (.ref C) "__ne__" = some (some (.builtin "object.__ne__"))) (hob : PySem.W.mroIn K C (.type "object") = some true) (hs : PySem.W.findIn K (.ref C) "__eq__" = some (some (.ref f))) (hf : PySem.W.isFn K (.ref f) = true)
    (h : wpAny (model prog w) A.in1 (call (.ref f) [.ref x, b]) (fun v s' => ∃ r, v = .bool r ∧ Q (.bool (!r)) s') E s) : wpAny (model prog w) A (richCompare .NotEq (.ref x) b) Q E s := by
  have t := ne_try (Q := fun v s' => ∃ z, v = some z ∧ Q z s') hu X I hne hob hs hf (wpAny_mono h (fun v s' ⟨r, e, q⟩ => ⟨r, e, _, rfl, q⟩) fun _ _ e => e)
  unfold richCompare
  simp only [oneThing_ref]
  refine wpAny_holding (wpAny_bind (wpAny_cRoomFor (Nat.lt_of_succ_lt hu) ?_))
  refine wpAny_bind (I.type.here (wpAny_bind (hb.here ?_)))
  have last : wpAny (model prog w) A (tryCompare (.ref x) "__ne__" b) (fun r s' => ∃ v, r = some v ∧ wpAny (model prog w) A (pure v) Q E s') E s :=
    wpAny_mono t (fun r s' ⟨v, e, q⟩ => ⟨v, e, wpAny_pure q⟩) fun _ _ e => e
  split
  · rename_i q
    have e : PySem.W.subIn K tb (.ref C) = some false := by
      rcases Bool.or_eq_true_iff.mp hn with z | z
      · have z2 := beq_iff_eq.mp z
        subst z2
        simp at q
      · exact beq_iff_eq.mp z
    refine wpAny_bind ((PySem.W.looks_subIn X e).here ?_)
    simp only [Bool.false_eq_true, if_false]
    refine wpAny_bind (wpAny_mono last (fun r s' hr => ?_) fun _ _ e => e)
    obtain ⟨v, rfl, qv⟩ := hr
    exact qv
  · refine wpAny_bind (wpAny_pure ?_)
    simp only [Bool.false_eq_true, if_false]
    refine wpAny_bind (wpAny_mono last (fun r s' hr => ?_) fun _ _ e => e)
    obtain ⟨v, rfl, qv⟩ := hr
    exact qv
end
/-! the rules -/
section
variable {X : Cx} {pins : List (Addr × Obj)} {σ : L2.St} {H : Hp} {s : Shared}
theorem ty_look {y : V} {u t : Value} (I : Inv X pins σ H s) (r : RelV y u) (ty : TyOf X.K H y t) (M : Model) : PySem.W.Looks M s.heap (typeOf u) t := by
  have at_ : ∀ {a : Addr} {o : Obj}, s.heap.get? a = some o → PySem.W.Looks M s.heap (typeOf (.ref a)) o.cls := fun h A Q E s2 k q => wpAny_typeOf_ref (k _ _ h) q
  cases ty with
  | non => cases (show u = Value.none from r); exact PySem.W.Looks.of_pure rfl
  | bl z => cases (show u = Value.bool z from r); exact PySem.W.Looks.of_pure rfl
  | int i => obtain ⟨k, e⟩ := (show ∃ k, u = Value.int i k from r); subst e; exact PySem.W.Looks.of_pure rfl
  | str z => obtain ⟨k, e⟩ := (show ∃ k, u = Value.str z k from r); subst e; exact PySem.W.Looks.of_pure rfl
  | flt z => obtain ⟨k, e⟩ := (show ∃ k, u = Value.float z k from r); subst e; exact PySem.W.Looks.of_pure rfl
  | @lst a xs ea =>
    cases (show u = Value.ref a from r)
    obtain ⟨_, _, n, _, h1⟩ := (show ObjOk X.prog X.w H s.heap a (.lst xs) from I.hok a _ ea)
    exact at_ h1
  | @frz a ob xs ea =>
    cases (show u = Value.ref a from r)
    obtain ⟨_, _, _, n, _, h1⟩ := (show ObjOk X.prog X.w H s.heap a (.frz ob (.lst xs)) from I.hok a _ ea)
    exact at_ h1
  | @tup a xs ea =>
    cases (show u = Value.ref a from r)
    obtain ⟨_, _, _, o, h1, h2, _⟩ := (show ObjOk X.prog X.w H s.heap a (.tup xs) from I.hok a _ ea)
    exact h2 ▸ at_ h1
  | @dK a kvs ea =>
    cases (show u = Value.ref a from r)
    obtain ⟨_, _, vs, _, o, es, ep, h1, h2, _⟩ := (show ObjOk X.prog X.w H s.heap a (.dK kvs) from I.hok a _ ea)
    exact h2.1 ▸ at_ h1
  | @dT a kvs ea =>
    cases (show u = Value.ref a from r)
    obtain ⟨_, _, vs, _, o, es, ep, h1, h2, _⟩ := (show ObjOk X.prog X.w H s.heap a (.dT kvs) from I.hok a _ ea)
    exact h2.1 ▸ at_ h1
  | @ins a D dx fs ea =>
    cases (show u = Value.ref a from r)
    obtain ⟨mA, J, _⟩ := ins_get I.hok ea
    obtain ⟨od, J, _⟩ := J.look
    exact J.type
/-- what the own == is asked of two values; neg: its opposite is wanted -/
def rOwn (K : PySem.W.Frag) (C : Addr) (sp : Sp) (E : XK) (neg : Bool) : R2 := fun x y H Q => ∃ a dx fs t, x = .ref a ∧ H a = some (.ins C dx fs) ∧ TyOf K H y t ∧ PySem.W.notFirst K C t = true ∧
  sp [x, y] H (fun v H' => ∃ r : Bool, v = .bl r ∧ Q (.bl (neg != r)) H') E
theorem run_own {CX : CXT} {n : Nat} {f : Addr} {fd : FuncData} {ps : List Str} {sp : Sp} {E : XK} {A : Around} {us : List Value} {vs : List V} {Q : VK} (F : FnOk X.prog X.w X.K X.mg X.base CX n f fd ps sp) (hb : Binds X.K fd ps []) (hx : Passes CX X E) (sb : Sub X n A)
    (I : Inv X pins σ H s) (r : Vals vs us) (h : sp vs H Q E) : wpAny (model X.prog X.w) A (call (.ref f) us) (EP X pins σ Q) X.xe s := by
  have e0 : Env0 X.prog X.w X.K X.mg X.base A X.stack s H := by
    have e := I.env0
    refine ⟨?_, e.mod, e.bs, e.bsz, e.funs, e.frf, e.hok, e.bare⟩
    rw [sb.fr]
    exact e.frames
  have hl := F.len _ _ _ _ h
  have bd : BindsTo s fd ⟨us, []⟩ (ps.zip us) := by
    have z := hb s us I.kIn (by rw [List.append_nil, ← r.length]; exact hl)
    rw [List.append_nil] at z
    exact z
  refine wpAny_call (codeAny_mono (F.run A X.stack s H ⟨us, []⟩ us vs Q E sb.room e0 bd r h) fun res s' hq => ?_)
  cases res with
  | error e => exact hx pins σ H s e s' I hq
  | ok fl =>
    cases fl with
    | ret u =>
      obtain ⟨v, H', I', rv, q⟩ := I.after hq
      exact ⟨v, H', I', rv, q⟩
    | next => exact False.elim hq
    | brk => exact False.elim hq
    | cont => exact False.elim hq
structure OwnEqF (K : PySem.W.Frag) (C f : Addr) (fd : FuncData) (ps : List Str) : Prop where
  eq : PySem.W.findIn K (.ref C) "__eq__" = some (some (.ref f))
  fn : PySem.W.isFn K (.ref f) = true
  ne : PySem.W.findIn K (.ref C) "__ne__" = some (some (.builtin "object.__ne__"))
  ob : PySem.W.mroIn K C (.type "object") = some true
  b : Binds K fd ps []
section
variable {CX : CXT} {n : Nat} {C f : Addr} {fd : FuncData} {ps : List Str} {sp : Sp} {E : XK}
theorem op_eqO (F : FnOk X.prog X.w X.K X.mg X.base CX n f fd ps sp) (O : OwnEqF X.K C f fd ps) (hx : Passes CX X E) (hr : Room n X.A) : OpR X (compareOp .Eq) (rOwn X.K C sp E false) := by
  intro pins s σ H x y u v Q I rx ry hq
  obtain ⟨a, dx, fs, t, ex, ha, ty, nf, h⟩ := hq
  subst ex
  cases (show u = Value.ref a from rx)
  obtain ⟨mA, J, _⟩ := ins_get I.hok ha
  obtain ⟨od, J, _⟩ := J.look
  obtain ⟨m, hF⟩ := I.fr
  show wpAny (model X.prog X.w) X.A (richCompare .Eq (.ref a) v) (EP X pins σ Q) X.xe s
  refine PySem.W.cmp_K (op := .Eq) (tb := t) hr.units0 hF I.ok.mod.kin J (ty_look I ry ty _) nf O.eq O.fn ?_
  refine wpAny_mono (run_own F O.b hx ⟨hr, rfl⟩ I (.cons rx (.cons ry .nil)) h) (fun z s' hz => ?_) fun _ _ e => e
  obtain ⟨_, H', I', rz, r, rfl, q⟩ := hz
  cases (show z = Value.bool r from rz)
  exact ⟨.bl r, H', I', rfl, by cases r <;> exact q⟩
theorem op_neO (F : FnOk X.prog X.w X.K X.mg X.base CX n f fd ps sp) (O : OwnEqF X.K C f fd ps) (hx : Passes CX X E) (hr : Room (n + 1) X.A) : OpR X (compareOp .NotEq) (rOwn X.K C sp E true) := by
  intro pins s σ H x y u v Q I rx ry hq
  obtain ⟨a, dx, fs, t, ex, ha, ty, nf, h⟩ := hq
  subst ex
  cases (show u = Value.ref a from rx)
  obtain ⟨mA, J, _⟩ := ins_get I.hok ha
  obtain ⟨od, J, _⟩ := J.look
  show wpAny (model X.prog X.w) X.A (richCompare .NotEq (.ref a) v) (EP X pins σ Q) X.xe s
  refine ne_own (tb := t) (by have := hr.units; omega) I.kIn J (ty_look I ry ty _) nf O.ne O.ob O.eq O.fn ?_
  have sb : Sub X (n + 1) X.A := ⟨hr, rfl⟩
  refine wpAny_mono (run_own F O.b hx sb.in1 I (.cons rx (.cons ry .nil)) h) (fun z s' hz => ?_) fun _ _ e => e
  obtain ⟨_, H', I', rz, r, rfl, q⟩ := hz
  cases (show z = Value.bool r from rz)
  exact ⟨r, rfl, .bl (!r), H', I', rfl, by cases r <;> exact q⟩
end
end
end KZ
end

section
set_option Elab.async false
set_option linter.all false
set_option maxRecDepth 100000
set_option maxHeartbeats 4000000
/-! o.m(k = v, ..); a promise that lets nothing out -/
namespace KZ
open PySem PySem.Spec PyProof.Rows L2
section
variable {X : Cx} {cx : CXT} {k : Nat} {f C : Addr} {fd : FuncData} {ps ks : List Str} {sp : Sp} {E : XK} {m : Str} {o : Expr} {ta : TE} {apos pos : Pos} {kws : List Keyword} {tk : TA} {g : List Value → List Value → List Value} {gV : List V → List V → List V}
def tMethK (C : Addr) (m : Str) (sp : Sp) (gV : List V → List V → List V) (E : XK) (ta : TE) (tk : TA) : TE := fun σ H Q => ta σ H fun x H1 => ∃ a dx fs, x = .ref a ∧ H1 a = some (.ins C dx fs) ∧ fs.lookup m = none ∧ tk σ H1 fun zs H2 => sp (gV [x] zs) H2 Q E
theorem pe_methK0 {pl : Sem Bool} (he : PE X o ta) (c : Cls X.K C) (hm : Meth X.K C m f) (F : FnOk X.prog X.w X.K X.mg X.base cx k f fd ps sp) (hr : Room k X.A) (hb : KBinds X.K fd ps ks g gV) (hx : Passes cx X E) (hkw : PK X kws tk)
    (hall : (backToKw pos (keywordEach kws X.env)).all (·.1.isSome) = true := by rfl) (hks : (backToKw pos (keywordEach kws X.env)).filterMap (·.1) = ks := by rfl)
    (hpl : ((backTo pos (starEach [] X.env)).any (·.1) || (backToKw pos (keywordEach kws X.env)).any (·.1.isNone)) = false := by rfl)
    (ht : eval (.Call (.Attribute o m apos) [] kws pos) X.env = (do
      let ov ← eval o X.env
      standAt apos.atName
      let (f, first) ← holding [ov] (getMethod ov m pl)
      callWith pos f first (backTo pos (starEach [] X.env)) (backToKw pos (keywordEach kws X.env))) := by rfl) :
    PE X (.Call (.Attribute o m apos) [] kws pos) (tMethK C m sp gV E ta tk) := by
  refine ⟨fun pins s σ H Q I h => ?_⟩
  refine PySem.W.methodCall_KW (pl := pl) (thn (he.run pins s σ H _ I h) fun u s1 ⟨x, H1, I1, rx, a, dx, fs, ex, ea, l, q⟩ => ?_) ht
  subst ex
  obtain rfl : u = Value.ref a := rx
  refine getmeth_ok I1 ea c hm l ?_
  refine PySem.W.callWith_KW0 (first := [.ref a]) (h₀ := X.base) I.ok.mod.kin hm.kp hall (thn (hkw.run pos pins s1 σ H1 _ I1 q) fun ws s2 ⟨zs, H2, I2, rz, q2⟩ => ⟨I2.kIn, ?_⟩) hpl
  rw [hks]
  exact run_fnk (us := [.ref a]) (vs := [.ref a]) F hr hb hx I2 (.cons rfl .nil) rz q2
end
section
variable {P : Program} {w : World} {K : PySem.W.Frag} {mg : Str → Option Value} {base : Heap} {k : Nat} {f : Addr} {fd : FuncData} {ps : List Str} {sp : Sp}
/-- where nothing is let out -/
theorem FnOk.x0 (F : FnOk P w K mg base (L2.CX P w) k f fd ps sp) : FnOk P w K mg base CX0 k f fd ps (fun vs H Q _ => sp vs H Q fun _ _ _ => False) :=
  ⟨fun vs H Q E h => F.len vs H Q _ h, fun A outer s H args us vs Q E hr he hb hv hs => codeAny_mono (F.run A outer s H args us vs Q _ hr he hb hv hs) fun r s' hq => by
    cases r with
    | error e =>
      obtain ⟨_, _, _, _, _, _, _, _, _, _, _, _, h⟩ := hq
      exact h.elim
    | ok fl => cases fl <;> exact hq⟩
end
end KZ
end

section
set_option Elab.async false
set_option linter.all false
set_option maxRecDepth 100000
set_option maxHeartbeats 4000000
/-! y = {k: v for .. in ..}, None among its keys, y a local name -/
namespace KZ
open PySem PySem.Spec PyProof.Rows L2
section
variable {X : Cx}
/-- the dict's making, whatever is done with it before the block is left -/
theorem dcn_core {pins : List (Addr × Obj)} {s : Shared} {σ : L2.St} {H : Hp} {Q : VK} {kx vx tg iter : Expr} {ifs : List Expr} {scope : Scope} {own : List (Str × Nat)} {pos pos' : Pos} {wi : TI} {g : TG} {tt : TT} {tk tv : TE} {use : Option (Value → Sem Unit)} {Qf : Value → Shared → Prop} (calm : X.calm = true) (nd : X.N.Nodup) (I : Inv X pins σ H s) (it_ : PI X tg iter wi) (blk : BlkOk X.N X.env.scope scope own)
    (p1 : ∀ (s : Shared) (H : Hp) (C : Addr) (cl : List (Str × Addr)) (fp : List Addr), PG (X.blk s H scope (compEnvC scope cl C X.env) fp) tg g)
    (p2 : ∀ (s : Shared) (H : Hp) (C : Addr) (cl : List (Str × Addr)) (fp : List Addr), PTs (X.blk s H scope (compEnvC scope cl C X.env) fp) ifs tt)
    (p3 : ∀ (s : Shared) (H : Hp) (C : Addr) (cl : List (Str × Addr)) (fp : List Addr), PE (X.blk s H scope (compEnvC scope cl C X.env) fp) kx tk)
    (p4 : ∀ (s : Shared) (H : Hp) (C : Addr) (cl : List (Str × Addr)) (fp : List Addr), PE (X.blk s H scope (compEnvC scope cl C X.env) fp) vx tv)
    (fold : ∀ x, foldedSetIterable iter X.env x = pure x) (hQ : tDn X wi g tt tk tv (own.map (·.2)) σ H Q)
    (fin : ∀ D C s' m H', Inv X pins σ H' s' → Q (.ref D) H' → s'.heap.Ns C m → FpOk X pins H' C → compPost (model X.prog X.w) X.A X.xe use Qf (.ref D) C (.ok .next) s') :
    wpAny (model X.prog X.w) X.A (comprehension (.DictComp kx vx [⟨tg, iter, ifs, 0⟩] scope pos) scope X.env pos' newDict false (eval iter X.env) use) Qf X.xe s := by
  have free_ : ∀ y ∈ scope.names, y.2 = .free → ∃ c, X.env.cells.lookup y.1 = some c := by
    intro y hy e
    exact I.ok.has _ (blk.free y hy e)
  refine wpAny_comprehension_free (use := use) rfl fold (closure_ok free_) blk.kind (fun y hy e => by rw [blk.uniq y hy, e]) (thn (it_.run pins s σ H _ I hQ) fun xv s1 y1 => thn y1 fun itv s2 y2 => ?_)
  obtain ⟨it, fp, tn, J, H2, rfl, I2, T, st2, f2, q⟩ := y2
  refine wpAny_newObj_type (newEnv_comp ?_)
  generalize eD : s2.heap.objs.size = D
  obtain ⟨W, ⟨m0, w0⟩, turn⟩ := q D (I2.hok.fresh (Nat.le_of_eq eD))
  generalize e3 : ({ s2 with heap := s2.heap.push { cls := .type "dict", data := .dict #[] } } : Shared) = s3
  have heap3 : s3.heap = s2.heap.push { cls := .type "dict", data := .dict #[] } := e3 ▸ rfl
  generalize eH : upd H2 D (DN X.prog X.w D []) = H3 at w0
  have I3 : Inv X pins σ H3 s3 := by
    subst e3 eH eD
    exact I2.laid (t' := s2.toks) (fun b o e => Heap.get?_push_of_some _ e) (Nat.le_refl _) (dn_empty s2.heap I2.big)
  have low : ∀ b ∈ fp, b < s2.heap.objs.size := by
    intro b hb
    obtain ⟨o, e, _⟩ := T.obj _ _ st2 b hb
    exact Heap.lt_size e
  have f3 : ∀ b ∈ fp, FpOk X pins H3 b ∧ b < s3.heap.objs.size := by
    intro b hb
    have l := low b hb
    have z := f2 b hb
    refine ⟨⟨?_, z.2⟩, ?_⟩
    · rw [← eH, upd_ne (fun y => Nat.lt_irrefl _ (by rw [y, eD] at l; exact l))]
      exact z.1
    · rw [heap3, Heap.size_push]
      exact Nat.lt_succ_of_lt l
  have st3 : tn 0 s3.heap := T.keep _ _ _ st2 fun b _ o e => heap3 ▸ Heap.get?_push_of_some _ e
  have none3 : ∀ b ∈ fp, H3 b = none := fun b hb => (f3 b hb).1.1
  have I4 := block_start I3 blk nd f3
  generalize ecl : cellsFrom (s3.heap.objs.size + 1) scope.names (cloFrom X.env.cells scope.names []) = cl at I4
  have g1 := p1 s3 H3 s3.heap.objs.size cl fp
  have g2 := p2 s3 H3 s3.heap.objs.size cl fp
  have g3 := p3 s3 H3 s3.heap.objs.size cl fp
  have g4 := p4 s3 H3 s3.heap.objs.size cl fp
  have eL : (compEnvC scope cl s3.heap.objs.size X.env).locals = s3.heap.objs.size := rfl
  generalize eE : compEnvC scope cl s3.heap.objs.size X.env = env at I4 g1 g2 g3 g4 eL
  generalize e4 : ({ s3 with heap := pushCells (s3.heap.push { cls := .type "dict", data := .dict #[] }) scope.names } : Shared) = s4 at I4
  have st4 : tn 0 s4.heap := T.keep _ _ _ st3 fun b _ o e => e4 ▸ pushCells_keeps _ _ _ _ (Heap.get?_push_of_some _ e)
  let B := X.blk s3 H3 scope env fp
  have held : ∀ {σ' : L2.St} {H' : Hp} {s' : Shared}, Inv B [] σ' H' s' → (∀ b ∈ fp, H' b = none) → ∀ b ∈ fp, FpOk B [] H' b := by
    intro σ' H' s' J' n b hb
    have z := J'.ok.exf b hb
    exact ⟨n b hb, z.1, J'.ok.exfs b hb, .inl hb, fun x c e => z.2 x c e, fun p hp => nomatch (show p ∈ ([] : List (Addr × Obj)) from hp)⟩
  have post : codeAny (model X.prog X.w) X.A (.compLoop (.DictComp kx vx [⟨tg, iter, ifs, 0⟩] scope pos) 0 (.ref it) (.ref D) env) (compPost (model X.prog X.w) X.A X.xe use Qf (.ref D) s3.heap.objs.size) s4 := by
    refine compLoop_anyD (fun n s' => ∃ i H', Inv B [] (wipe σ (own.map (·.2))) H' s' ∧ tn i s'.heap ∧ (∀ b ∈ fp, H' b = none) ∧ W i n H') ?_ m0 ⟨0, H3, I4, st4, none3, w0⟩
    rintro n s5 ⟨i, H5, I5, st5, n5, w5⟩
    rcases turn i n H5 w5 with ⟨stop, qq⟩ | ⟨go, Nx, hNx, step⟩
    · refine thnF (T.done B rfl rfl rfl calm i [] s5 _ H5 (fun _ _ => False) I5 (held I5 n5) st5 stop) fun r s6 y6 => ?_
      obtain ⟨rfl, I6⟩ := y6
      have I7 : Inv X pins σ H5 s6 := by
        refine I3.call' (ch := fp) I6.os I6.base I6.hok I6.bare fun b hb => ?_
        have z := (f3 b hb).1.2
        exact ⟨z.2.2.1, z.1, z.2.2.2.1, z.2.2.2.2⟩
      have nC : H5 s3.heap.objs.size = none := eL ▸ I6.free
      obtain ⟨m, hn, _⟩ := I6.loc
      exact fin D s3.heap.objs.size s6 m H5 I7 qq (eL ▸ hn) (I3.fpOk (Nat.le_refl _) nC)
    · refine thnF (T.item B rfl rfl rfl calm i [] s5 _ H5 (fun _ _ => False) I5 (held I5 n5) st5 go) fun r s6 y6 => ?_
      obtain ⟨u, rfl, y6⟩ := y6
      refine thnF y6 fun _ s7 y7 => ?_
      obtain ⟨x, H7, I7, r7, yl, st7, n7⟩ := y7
      have P7 := I7.pinned (held I7 n7) (T.obj _ _ st7)
      refine thnF (g1.run _ s7 _ H7 x u _ P7 r7 (step x H7 yl)) fun _ s8 y8 => ?_
      obtain ⟨σ8, H8, I8, w8, y8⟩ := y8
      refine thnF (g2.run _ s8 σ8 H8 _ I8 y8) fun b s9 y9 => ?_
      obtain ⟨H9, I9, y9⟩ := y9
      have len8 : (wipe σ (own.map (·.2))).length = σ8.length := by rw [← w8, wipe_length]
      have next : ∀ {s' : Shared} {H' : Hp}, Inv B ([] ++ pinsAt fp s7.heap) σ8 H' s' → Nx H' → ∃ m, m < n ∧ ∃ i H', Inv B [] (wipe σ (own.map (·.2))) H' s' ∧ tn i s'.heap ∧ (∀ b ∈ fp, H' b = none) ∧ W i m H' := by
        intro s' H' I' nx
        obtain ⟨k, hk, w'⟩ := hNx H' nx
        have pin : ∀ b ∈ fp, ∀ o, s7.heap.get? b = some o → s'.heap.get? b = some o ∧ H' b = none := by
          intro b hb o e
          have z := I'.pin (b, o) (List.mem_append_right _ (List.mem_append_right _ (mem_pinsAt hb e)))
          exact ⟨z.1, z.2.1⟩
        refine ⟨k, hk, i + 1, H', (I'.unpinned (pins := [])).weak len8 ?_, T.keep _ _ _ st7 fun b hb o e => (pin b hb o e).1, ?_, w'⟩
        · intro j v e
          rw [← w8] at e
          exact (wipe_some e).1
        · intro b hb
          obtain ⟨o, e, _⟩ := T.obj _ _ st7 b hb
          exact (pin b hb o e).2
      cases b with
      | false => exact next I9 y9
      | true =>
        refine thnF (g3.run _ s9 σ8 H9 _ I9 y9) fun z s10 y10 => ?_
        obtain ⟨yk, H10, I10, r10, y10⟩ := y10
        refine thnF (g4.run _ s10 σ8 H10 _ I10 y10) fun z2 s11 y11 => ?_
        obtain ⟨yv, H11, I11, r11, kvs, k, ek, eD11, hz, nx⟩ := y11
        subst ek
        exact n_dictSet (X := B) I11 eD11 hz r10 r11 fun s12 I12 => next I12 nx
  subst eE ecl e4
  exact codeAny_compStart_dict post (T.self X.A 0 _ _ _ st4 post)

theorem ps_setDcN {i : Nat} {y : Str} {py : Pos} {kx vx tg iter : Expr} {ifs : List Expr} {scope : Scope} {own : List (Str × Nat)} {pos spos : Pos} {wi : TI} {g : TG} {tt : TT} {tk tv : TE} (calm : X.calm = true) (nd : X.N.Nodup) (at_ : X.N[i]? = some y) (loc : X.env.scope.names.lookup y = some .local)
    (sw : swapsWith (.DictComp kx vx [⟨tg, iter, ifs, 0⟩] scope pos) (some (.Name y py)) spos.line X.env = pure true) (it_ : PI X tg iter wi) (blk : BlkOk X.N X.env.scope scope own)
    (p1 : ∀ (s : Shared) (H : Hp) (C : Addr) (cl : List (Str × Addr)) (fp : List Addr), PG (X.blk s H scope (compEnvC scope cl C X.env) fp) tg g)
    (p2 : ∀ (s : Shared) (H : Hp) (C : Addr) (cl : List (Str × Addr)) (fp : List Addr), PTs (X.blk s H scope (compEnvC scope cl C X.env) fp) ifs tt)
    (p3 : ∀ (s : Shared) (H : Hp) (C : Addr) (cl : List (Str × Addr)) (fp : List Addr), PE (X.blk s H scope (compEnvC scope cl C X.env) fp) kx tk)
    (p4 : ∀ (s : Shared) (H : Hp) (C : Addr) (cl : List (Str × Addr)) (fp : List Addr), PE (X.blk s H scope (compEnvC scope cl C X.env) fp) vx tv)
    (fold : ∀ x, foldedSetIterable iter X.env x = pure x := by intro _; rfl) :
    PS X (.Assign [.Name y py] (.DictComp kx vx [⟨tg, iter, ifs, 0⟩] scope pos) spos) (tAsg (tDn X wi g tt tk tv (own.map (·.2))) (gName i)) := by
  refine ⟨fun pins s σ H D I hD => ?_⟩
  rw [exec_Assign_Name_used _ _ _ _ sw]
  refine wpAny_bind (wpAny_standAt (wpAny_bind ?_))
  show wpAny _ X.A (do let _ ← comprehension (.DictComp kx vx [⟨tg, iter, ifs, 0⟩] scope pos) scope X.env (firstIterPos [⟨tg, iter, ifs, 0⟩] pos) newDict false (eval iter X.env) (some (assign (.Name y py) X.env))) _ _ s
  have hD : tDn X wi g tt tk tv (own.map (·.2)) σ H (fun x H1 => gName i x σ H1 D.nx) := hD
  refine wpAny_bind (thn (dcn_core (Qf := fun _ s' => SP X pins D .next s') calm nd I it_ blk p1 p2 p3 p4 fold hD fun L C s' m H' I' q hn f => ?_) fun _ s' hq => wpAny_pure (wpAny_pure hq))
  show wpAny _ _ (assign (.Name y py) X.env (.ref L)) _ _ _
  refine wpAny_assign_Name (store_ok2 (v := V.ref L) I' nd at_ (.inl loc) rfl (fun s2 I2 ⟨a, sb, ha⟩ => ?_) (.inr loc))
  have ne : C ≠ a := ha.elim (fun z => z ▸ f.2.1) fun z e => f.2.2.2.2.1 y a z e.symm
  exact ⟨m, hn.sameBut sb ne, fun h3 sb3 => ⟨_, H', I2.turned (t' := s2.toks) (fun b o hb e => (sb3.2 b hb).trans e) f.1 f.2.1 f.2.2.2.1 f.2.2.2.2.1 f.2.2.2.2.2, q⟩⟩
theorem sw_trueD {kx vx : Expr} {gs : List Comprehension} {scope : Scope} {pos py : Pos} {y : Str} {l : Nat} {env : Env} (fn : env.scope.kind = .function) (loc : env.scope.names.lookup y = some .local) (ln : (py.line == pos.line) = true)
    (out : (scope.names.any fun (n, k) => n == y && (k == .local || k == .cell)) = false) : swapsWith (.DictComp kx vx gs scope pos) (some (.Name y py)) l env = pure true := by
  have e1 : env.blockKind = .function := by unfold Env.blockKind; rw [fn]; rfl
  have e2 : env.kindOf y = some .local := loc
  unfold swapsWith
  simp only [e1, e2, out, Expr.pos, ln]
  rfl
end
end KZ
end

section
set_option Elab.async false
set_option linter.all false
set_option maxRecDepth 100000
set_option maxHeartbeats 4000000
/-! k not in d, None among d's keys -/
namespace KZ
open PySem PySem.Spec PyProof.Rows L2
section
variable {X : Cx} {A : Around} {E : Value → Shared → Prop} {pins : List (Addr × Obj)} {σ : L2.St} {H : Hp} {s : Shared} {a : Addr} {kvs : List (NK × V)} {k : NK} {u : Value}
theorem n_notin {Q : Value → Shared → Prop} (I : Inv X pins σ H s) (e : Rd H a (DN X.prog X.w a kvs)) (ry : RelV (nV k) u) (h : ∀ s', Inv X pins σ H s' → Q (.bool (!(valV kvs k).isSome)) s') :
    wpAny (model X.prog X.w) A (compareOp .NotIn u (.ref a)) Q E s := by
  obtain ⟨_, hd, vs, rel, dd⟩ := DN.rd (kvs := kvs) I.hok e
  have e2 := (rel.val k).isSome_eq
  refine wpAny_notIn_of (nV_is ry) hd dd.mapOf ?_
  rw [← e2]
  exact h _ (I.tok _)
end
def tNNotInP (P : Program) (w : World) (ty td : TE) : TE := fun σ H Q => ty σ H fun y H1 => td σ H1 fun x H2 => ∃ a kvs k, x = .ref a ∧ Rd H2 a (DN P w a kvs) ∧ y = nV k ∧ Q (.bl (!(valV kvs k).isSome)) H2
theorem pc_nnotinK {X : Cx} {i o : Expr} {ty td : TE} (P : Program) (w : World) (hi : PE X i ty) (ho : PE X o td) (hP : X.prog = P := by rfl) (hw : X.w = w := by rfl) : PC X .NotIn i o (tNNotInP P w ty td) := by
  subst hP hw
  refine ⟨fun pins s σ H Q I h => thn (hi.run pins s σ H _ I h) fun j s1 ⟨y, H1, I1, ry, q1⟩ => thn (ho.run pins s1 σ H1 _ I1 q1) fun u s2 ⟨x, H2, I2, rx, q2⟩ => ?_⟩
  obtain ⟨a, kvs, k, ex, e2, ey, q⟩ := q2
  subst ex ey
  cases (show u = Value.ref a from rx)
  exact n_notin I2 e2 ry fun s3 I3 => ⟨.bl _, H2, I3, rfl, q⟩
end KZ
end

section
set_option Elab.async false
set_option linter.all false
set_option maxRecDepth 100000
set_option maxHeartbeats 4000000
/-! len(d), None among d's keys -/
namespace KZ
open PySem PySem.Spec PyProof.Rows L2
section
variable {X : Cx}
theorem n_len {A : Around} {E : Value → Shared → Prop} {pins : List (Addr × Obj)} {σ : L2.St} {H : Hp} {s : Shared} {a : Addr} {kvs : List (NK × V)} {Q : Value → Shared → Prop} (I : Inv X pins σ H s) (e : Rd H a (DN X.prog X.w a kvs)) (h : ∀ t s', Inv X pins σ H s' → Q (.int kvs.length t) s') :
    wpAny (model X.prog X.w) A (call (.builtin "len") [.ref a]) Q E s := by
  obtain ⟨z, hd, vs, rel, dd⟩ := DN.rd (kvs := kvs) I.hok e
  have lv : kvs.length = vs.length := rel.length
  have small : vs.length < 2 ^ 63 := by
    rw [← lv]
    exact Nat.lt_of_le_of_lt z (by decide)
  refine call_len_dict hd dd (by omega) ?_
  rw [← lv]
  exact h _ _ (I.tok _)
theorem call_lenNK (P : Program) (w : World) (hP : X.prog = P := by rfl) (hw : X.w = w := by rfl) : CallR X (.builtin "len") (fun xs H Q => ∃ a kvs, xs = [V.ref a] ∧ Rd H a (DN P w a kvs) ∧ Q (.int (kvs.length : Nat)) H) := by
  subst hP hw
  intro pins s σ H xs us Q I r h
  obtain ⟨a, kvs, rfl, ha, q⟩ := h
  obtain ⟨u, rfl, ru⟩ := vals1 r
  cases (show u = Value.ref a from ru)
  exact n_len I ha fun t s' I' => ⟨.int kvs.length, H, I', ⟨t, rfl⟩, q⟩
end
end KZ
end

section
set_option Elab.async false
set_option linter.all false
set_option maxRecDepth 100000
set_option maxHeartbeats 4000000
/-! t.index(y), t a tuple of flat items -/
namespace KZ
open PySem PySem.Spec PyProof.Rows L2
section
variable {X : Cx}
def rTIx (K : PySem.W.Frag) : V → List V → Hp → VK → Prop := fun x xs H Q => ∃ (a : Addr) (ys : List V) (y : V) (j : Nat) (z : V), x = V.ref a ∧ xs = [y] ∧ SqT K H a ys ∧ flatV y = true ∧ ys.all flatV = true ∧ ys[j]? = some z ∧ eqV z y = true ∧ (∀ (m : Nat) (z' : V), m < j → ys[m]? = some z' → eqV z' y = false) ∧ Q (.int (j : Nat)) H
theorem mt_tix : MtR X "tuple.index" (rTIx X.K) := by
  intro pins s σ H x xs v us Q I rx rxs h
  obtain ⟨a, ys, y, j, z, ex, exs, tup, fy, fys, at_, same, first, q⟩ := h
  subst ex exs
  cases rx
  obtain ⟨u, eu, ry⟩ := vals1 rxs
  subst eu
  obtain ⟨its, rv, pl, hz⟩ := I.tuple tup
  obtain ⟨⟨cls, dd, dt, sl⟩, ho, hc, n, hd⟩ := pl
  simp only at hc hd
  subst hc hd
  obtain ⟨w, hw, rw_⟩ := rv.get at_
  obtain ⟨jl, je⟩ := List.getElem?_eq_some_iff.mp hw
  have hj : j < its.toArray.size := by simpa using jl
  refine call_meets PySem.F.slot_tuple_index ⟨_, ho, rfl⟩ PySem.F.entry_tuple_index (PySem.F.args_tuple_index_2 _ _)
    (TI.tuple_indexAt a its.toArray n dd sl u (eqU y) j hj ?_ ?_)
    ⟨ho, fun w' hw' => mem_eqAt ry fy rv fys w' (by simpa using hw'), ⟨.int (j : Nat), H, I.tok _, ⟨_, rfl⟩, q⟩⟩
  · have e1 : its.toArray[j] = w := by simpa using je
    rw [e1, eqU_of rw_ (flat_at fys at_)]
    exact same
  · intro m hm mj
    have ml : m < its.length := by simpa using hm
    have my : m < ys.length := by rw [← rv.length] at ml; exact ml
    obtain ⟨w2, hw2, r2⟩ := rv.get (List.getElem?_eq_getElem my)
    have e2 : its.toArray[m] = w2 := by simpa using (List.getElem?_eq_some_iff.mp hw2).2
    rw [e2, eqU_of r2 (flat_at fys (List.getElem?_eq_getElem my))]
    exact first m _ mj (List.getElem?_eq_getElem my)
end
end KZ
end

section
set_option Elab.async false
set_option linter.all false
set_option maxRecDepth 100000
set_option maxHeartbeats 4000000
/-! a tuple of which it is known that it has no dict: its methods -/
namespace KZ
open PySem PySem.Spec PyProof.Rows L2
def TupD (H : Hp) (p : Addr) (xs : List V) : Prop := ∃ ob : Obj, ob.dict = none ∧ H p = some (.frz ob (.tup xs))
theorem TupD.sq {K : PySem.W.Frag} {H : Hp} {p : Addr} {xs : List V} (h : TupD H p xs) : SqT K H p xs := by
  obtain ⟨ob, _, e⟩ := h
  exact .inl (.inr ⟨ob, e⟩)
theorem TupD.mono {H H' : Hp} {p : Addr} {xs : List V} (h : TupD H p xs) (k : ∀ ob, H p = some (.frz ob (.tup xs)) → H' p = some (.frz ob (.tup xs))) : TupD H' p xs := by
  obtain ⟨ob, d, e⟩ := h
  exact ⟨ob, d, k _ e⟩
section
variable {X : Cx}
def tTupD (t : TA) : TE := fun σ H Q => t σ H fun xs H1 => xs.length ≤ sizeLine ∧ ∀ p (ob : Obj), H1 p = none → ob.dict = none → Q (.ref p) (upd H1 p (.frz ob (.tup xs)))
theorem pe_tupD {es : List Expr} {x1 : Nat} {pos : Pos} {t : TA} (h : PA X es t) : PE X (.Tuple es x1 pos) (tTupD t) := by
  refine ⟨fun pins s σ H Q I hq => ?_⟩
  refine wpAny_Tuple_spliced (thn (h.run pos pins s σ H _ I hq) fun us s1 ⟨xs, H1, I1, r, z, q⟩ => ⟨by rw [← r.length]; exact z, ?_⟩)
  have hf : H1 s1.heap.objs.size = none := I1.hok.fresh (Nat.le_refl _)
  refine ⟨.ref s1.heap.objs.size, upd H1 s1.heap.objs.size (.frz { cls := .type "tuple", data := .seq us.toArray } (.tup xs)), I1.laid (t' := s1.toks) (fun b u e => Heap.get?_push_of_some _ e) (Nat.le_refl _) ?_, rfl, q _ _ hf rfl⟩
  exact ⟨Heap.get?_push_size _ rfl, z, us, r, ⟨_, Heap.get?_push_size _ rfl, rfl, _, rfl⟩⟩
def rCatD (K : PySem.W.Frag) : R2 := fun x y H Q => ∃ a b xs ys, x = .ref a ∧ y = .ref b ∧ SqT K H a xs ∧ SqT K H b ys ∧ xs.length + ys.length ≤ sizeLine ∧
  (xs = [] → Q (.ref b) H) ∧ (xs ≠ [] → ys = [] → Q (.ref a) H) ∧ (xs ≠ [] → ys ≠ [] → ∀ p (ob : Obj), H p = none → ob.dict = none → Q (.ref p) (upd H p (.frz ob (.tup (xs ++ ys)))))
theorem op_catD : OpR X (binaryOp .Add) (rCatD X.K) := by
  intro pins s σ H x y v u Q I rx ry h
  obtain ⟨a, b, xs, ys, rfl, rfl, ha, hb, hz, q0, q1, q2⟩ := h
  cases rx
  cases ry
  obtain ⟨its, r1, p1, _⟩ := I.tuple ha
  obtain ⟨its2, r2, p2, _⟩ := I.tuple hb
  by_cases hx : xs = []
  · subst hx
    cases r1
    exact cat_tup0 p1 p2 ⟨.ref b, H, I, rfl, q0 rfl⟩
  · refine HT.cat_tup p1 p2 (fun z => hx (r1.nil_iff.mp z)) (fun z => ⟨.ref a, H, I, rfl, q1 hx (r2.nil_iff.mp z)⟩) (fun z => ?_) (by rw [← r1.length, ← r2.length]; exact hz)
    refine ⟨.ref s.heap.objs.size, _, I.laid (t' := s.toks) (o := .frz { cls := .type "tuple", data := .seq (its ++ its2).toArray } (.tup (xs ++ ys))) (fun b ob q => Heap.get?_push_of_some _ q) (Nat.le_refl _) ?_, rfl, q2 hx (fun w => z (r2.nil_iff.mpr w)) _ _ (I.hok.fresh (Nat.le_refl _)) rfl⟩
    exact ⟨Heap.get?_push_size _ rfl, by rw [List.length_append]; exact hz, _, r1.append r2, IsTup.new _ _⟩
theorem TupD.is {pins : List (Addr × Obj)} {σ : L2.St} {H : Hp} {s : Shared} {p : Addr} {xs : List V} (I : Inv X pins σ H s) (h : TupD H p xs) : s.TypeIs (.ref p) "tuple" ∧ ∀ a, Value.ref p = .ref a → ∃ ob, s.heap.get? a = some ob ∧ ob.dict = none := by
  obtain ⟨ob, hd, e⟩ := h
  obtain ⟨e1, _, its, r, t⟩ := I.hok p _ e
  exact ⟨t.typeIs, fun a z => by cases z; exact ⟨ob, e1, hd⟩⟩
def tBMD (r : V → List V → Hp → VK → Prop) (to : TE) (t : TA) : TE := fun σ H Q => to σ H fun x H1 => (∃ p xs, x = .ref p ∧ TupD H1 p xs) ∧ t σ H1 fun xs H2 => r x xs H2 Q
variable {o e : Expr} {es : List Expr} {to : TE} {t : TA} {name : Str} {apos cpos : Pos} {id : String} {r : V → List V → Hp → VK → Prop}
theorem pe_bmD (pa : PlainAttrs "tuple") (slot : Slot "tuple" name id) (hty : typeOf (.builtin id) = pure (.type "method_descriptor")) (hm : MtR X id r) (ho : PE X o to) (ha : PA X (e :: es) t)
    (hbase : attributeBase o name X.env (eval o X.env) = eval o X.env := by rfl)
    (hfew : ((backTo cpos (starEach (e :: es) X.env)).all (fun x => !x.1) && (backToKw cpos (keywordEach [] X.env)).all (fun x => x.1.isSome)
      && decide ((e :: es).length + ([] : List Keyword).length + (if ([] : List Keyword).isEmpty then 0 else 1) < 30)) = true := by rfl)
    (hline : (apos.endLine == cpos.line) = true := by rfl) (hs : starEach (e :: es) X.env = (false, eval e X.env) :: starEach es X.env := by rfl) (hplain : (backTo cpos (starEach es X.env)).any (·.1) = false := by rfl) :
    PE X (.Call (.Attribute o name apos) (e :: es) [] cpos) (tBMD r to t) := by
  refine ⟨fun pins s σ H Q I h => ?_⟩
  refine wpAny_Call_method_late hbase hfew hline rfl (thn (ho.run pins s σ H _ I h) fun v s1 ⟨x, H1, I1, r1, ⟨p, xs0, ex, ty⟩, q1⟩ => ?_)
  subst ex
  cases r1
  obtain ⟨h1, h2⟩ := ty.is I1
  refine ⟨"tuple", id, pa, slot, hty, h1, h2, ?_⟩
  have hA := ha.run cpos pins s1 σ H1 _ I1 q1
  rw [hs] at hA ⊢
  refine Calls.callWith_builtin (by show (false || (backTo cpos (starEach es X.env)).any (·.1)) = false; rw [hplain] <;> rfl) (Calls.evalArgs_plain ?_)
  exact thn hA fun us s2 ⟨vs, H2, I2, r2, q2⟩ => hm pins s2 σ H2 (.ref p) vs (.ref p) us Q I2 rfl r2 q2
end
end KZ
end

section
set_option Elab.async false
set_option linter.all false
set_option maxRecDepth 100000
set_option maxHeartbeats 4000000
/-! rules with the fragment named: methods of lists, slices and sums of tuples -/
namespace KZ
open PySem PySem.Spec PyProof.Rows L2
section
variable {X : Cx} {o e : Expr} {es : List Expr} {to : TE} {t : TA} {name : Str} {apos cpos : Pos} {T id : String} {r : V → List V → Hp → VK → Prop}
theorem mt_indexK (K : PySem.W.Frag) (h : X.K = K := by rfl) : MtR X "list.index" (rIndex K) := by subst h; exact mt_index
theorem mt_tixK (K : PySem.W.Frag) (h : X.K = K := by rfl) : MtR X "tuple.index" (rTIx K) := by subst h; exact mt_tix
theorem sl_tupK (K : PySem.W.Frag) (h : X.K = K := by rfl) : SlR X (rSlT K) := by subst h; exact sl_tup
theorem op_catAK (K : PySem.W.Frag) (h : X.K = K := by rfl) : OpR X (binaryOp .Add) (rCatA K) := by subst h; exact op_catA
theorem pe_bmK (K : PySem.W.Frag) (pa : PlainAttrs T) (slot : Slot T name id) (hty : typeOf (.builtin id) = pure (.type "method_descriptor")) (hm : MtR X id r) (ho : PE X o to) (ha : PA X (e :: es) t) (hK : X.K = K := by rfl)
    (hbase : attributeBase o name X.env (eval o X.env) = eval o X.env := by rfl)
    (hfew : ((backTo cpos (starEach (e :: es) X.env)).all (fun x => !x.1) && (backToKw cpos (keywordEach [] X.env)).all (fun x => x.1.isSome)
      && decide ((e :: es).length + ([] : List Keyword).length + (if ([] : List Keyword).isEmpty then 0 else 1) < 30)) = true := by rfl)
    (hline : (apos.endLine == cpos.line) = true := by rfl) (hs : starEach (e :: es) X.env = (false, eval e X.env) :: starEach es X.env := by rfl) (hplain : (backTo cpos (starEach es X.env)).any (·.1) = false := by rfl) :
    PE X (.Call (.Attribute o name apos) (e :: es) [] cpos) (tBM K T r to t) := by
  subst hK
  exact pe_bm pa slot hty hm ho ha hbase hfew hline hs hplain
end
end KZ
end

section
set_option Elab.async false
set_option linter.all false
set_option maxRecDepth 100000
set_option maxHeartbeats 4000000
/-! t[::-1], t a tuple; slices and sums of tuples of any kind, the fragment named -/
namespace KZ
open PySem PySem.Spec PyProof.Rows L2 HT
section
variable {prog : Program} {w : World} {A : Around} {E : Value → Shared → Prop} {s : Shared}
theorem adjust_rev (n : Nat) : Builtin.Slice.sliceAdjust none none (-1) (n : Int) = ((n : Int) - 1, -1) := by
  unfold Builtin.Slice.sliceAdjust
  rfl
theorem places_rev (n : Nat) : Builtin.Slice.slicePlaces ((n : Int) - 1) (-1) (-1) = n := by
  unfold Builtin.Slice.slicePlaces
  rw [if_neg (by decide)]
  by_cases h : (n : Int) - 1 > -1
  · rw [if_pos h]
    have : ((n : Int) - 1 - -1 - 1) / (- -1) + 1 = n := by
      rw [show (- -1 : Int) = 1 from rfl, Int.ediv_one]
      omega
    rw [this]
    rfl
  · rw [if_neg h]
    show 0 = n
    omega
theorem pick_rev (xs : Array Value) : ((List.range xs.size).filterMap fun (m : Nat) => xs[(((xs.size : Nat) : Int) - 1 + (m : Int) * (-1)).toNat]?).toArray = xs.toList.reverse.toArray := by
  congr 1
  have e : ∀ k, k ≤ xs.size → ((List.range k).filterMap fun (m : Nat) => xs[(((xs.size : Nat) : Int) - 1 + (m : Int) * (-1)).toNat]?) = xs.toList.reverse.take k := by
    intro k
    induction k with
    | zero => intro _; rfl
    | succ k ih =>
      intro hk
      rw [List.range_succ, List.filterMap_append, ih (by omega), List.take_add_one]
      congr 1
      have i1 : (((xs.size : Nat) : Int) - 1 + (k : Int) * (-1)).toNat = xs.size - 1 - k := by omega
      have l1 : k < xs.toList.length := by rw [Array.length_toList]; omega
      rw [List.getElem?_reverse l1, Array.length_toList]
      show ([k].filterMap _) = _
      rw [List.filterMap_cons, i1, Array.getElem?_toList]
      cases xs[xs.size - 1 - k]? <;> rfl
  rw [e xs.size (Nat.le_refl _), List.take_of_length_le (by rw [List.length_reverse, Array.length_toList]; exact Nat.le_refl _)]
theorem sliceApplied_rev {sl : Addr} {n : Nat} {t : Tok} {Q : Int × Int × Nat → Shared → Prop} (hs : s.heap.IsSliceOf sl .none .none (.int (-1) t))
    (h : Q ((n : Int) - 1, -1, n) s) : wpAny (model prog w) A (Builtin.Slice.sliceApplied (.ref sl) (pure (n : Int))) Q E s := by
  obtain ⟨os, hos, hcs, hds⟩ := id hs
  unfold Builtin.Slice.sliceApplied Builtin.Slice.sliceFields
  refine wpAny_bind (wpAny_bind (wpAny_field hos hds (x := .none) rfl (wpAny_bind (wpAny_field hos hds (x := .none) rfl (wpAny_bind (wpAny_field hos hds (x := .int (-1) t) rfl (wpAny_pure ?_)))))))
  refine wpAny_bind (slicePart_int ?_)
  show wpAny _ _ (if ((-1 : Int) == 0) = true then _ else _) _ _ s
  rw [if_neg (by decide)]
  refine wpAny_bind (slicePart_none (wpAny_bind (slicePart_none (wpAny_bind (wpAny_pure ?_)))))
  show wpAny _ _ (match Builtin.Slice.sliceAdjust none none (-1) (n : Int) with | (lo, hi) => pure (lo, (-1 : Int), Builtin.Slice.slicePlaces lo hi (-1))) _ _ s
  rw [adjust_rev n]
  show wpAny _ _ (pure ((n : Int) - 1, (-1 : Int), Builtin.Slice.slicePlaces ((n : Int) - 1) (-1) (-1))) _ _ s
  rw [places_rev]
  exact wpAny_pure h
theorem getItem_tuple_rev {a sl : Addr} {t : Tok} {items : Array Value} {Q : Value → Shared → Prop} (ht : IsTup s.heap a items) (hs : s.heap.IsSliceOf sl .none .none (.int (-1) t))
    (h : Q (.ref s.heap.objs.size) { s with heap := s.heap.push { cls := .type "tuple", data := .seq items.toList.reverse.toArray } })
    (hsz : items.size ≤ sizeLine) : wpAny (model prog w) A (getItem (.ref a) (.ref sl)) Q E s := by
  have htake : sizeOk (.seq items.toList.reverse.toArray) := by
    show items.toList.reverse.toArray.size ≤ sizeLine
    rw [List.size_toArray, List.length_reverse, Array.length_toList]
    exact hsz
  obtain ⟨os, hos, hcs, hds⟩ := id hs
  have hTs : s.TypeIs (.ref sl) "slice" := ⟨os, hos, hcs⟩
  unfold getItem
  try with_reducible refine wpAny_holding ?_
  first | refine wpAny_bind (wpAny_pure ?_) | skip
  refine wpAny_bind (wpAny_sequenceKey ht.typeIs (by decide) ?_)
  refine wpAny_bind (wpAny_callSpecial?_slot (name := Str.ofString "__getitem__") ht.typeIs PyProof.Rows.slot_tuple_getitem
    (wpAny_call_entry PyProof.Rows.slot_tuple_getitem ht.typeIs entry_tuple_getitem ?_ (args_tuple_getitem _ _)))
  show wpAny _ _ (Builtin.Tuple.tupleItemsOf (.ref a) >>= _) _ _ s
  refine wpAny_bind (tupleItemsOf_ ht ?_)
  refine wpAny_bind (wpAny_typeOf hTs ?_)
  rw [if_pos (by decide)]
  refine wpAny_bind (sliceApplied_rev hs ?_)
  have hno : ¬ ((((items.size : Nat) : Int) - 1 == 0 && (-1 : Int) == 1 && items.size == items.size) = true) := by
    rw [show ((-1 : Int) == 1) = false from rfl, Bool.and_false, Bool.false_and]
    exact fun z => nomatch z
  show wpAny _ _ (if (((items.size : Nat) : Int) - 1 == 0 && (-1 : Int) == 1 && items.size == items.size) = true then _ else _) _ _ s
  rw [if_neg hno, pick_rev]
  first
    | exact wpAny_bind (m := Builtin.Tuple.tupleExact _) (wpAny_newObj_type (wpAny_pure ⟨_, rfl, wpAny_pure h⟩) htake)
    | exact wpAny_bind (m := Builtin.Tuple.tupleExact _) (wpAny_newObj_type (wpAny_bind (wpAny_pure (wpAny_pure ⟨_, rfl, wpAny_pure h⟩))) htake)
    | exact wpAny_bind (wpAny_bind (m := Builtin.Tuple.tupleExact _) (wpAny_newObj_type (wpAny_pure (wpAny_pure ⟨_, rfl, wpAny_pure h⟩)) htake))
    | exact wpAny_bind (wpAny_bind (m := Builtin.Tuple.tupleExact _) (wpAny_newObj_type (wpAny_pure ⟨_, rfl, wpAny_pure h⟩) htake))
end
section
variable {X : Cx} {e st : Expr} {te ts : TE} {pos p2 : Pos}
/-- t[::-1] -/
def tRev (K : PySem.W.Frag) (te ts : TE) : TE := fun σ H Q => te σ H fun x H1 => ts σ H1 fun y H2 => y = .int (-1) ∧ ∃ a xs, x = .ref a ∧ SqT K H2 a xs ∧ ∀ p, H2 p = none → Q (.ref p) (upd H2 p (.tup xs.reverse))
theorem pe_rev (he : PE X e te) (hs : PE X st ts) : PE X (.Subscript e (.Slice none none (some st) p2) pos) (tRev X.K te ts) := by
  refine ⟨fun pins s σ H Q I h => ?_⟩
  refine Subscript_ (thn (he.run pins s σ H _ I h) fun v s1 ⟨x, H1, I1, r1, q1⟩ => ?_)
  refine wpAny_Slice ?_
  rw [evalPart_none]
  refine wpAny_pure ?_
  refine wpAny_pure ?_
  rw [evalPart_some]
  refine thn (hs.run pins s1 σ H1 _ I1 q1) fun vl s2 ⟨y, H2, I2, r2, ey, a, xs, ex, hx, q2⟩ => ?_
  subst ey ex
  obtain ⟨t, rfl⟩ := r2
  cases r1
  have I3 : Inv X pins σ H2 { s2 with heap := s2.heap.push { cls := .type "slice", data := .fields #[.none, .none, .int (-1) t] } } := I2.kept (t' := s2.toks) fun b ob q => Heap.get?_push_of_some _ q
  obtain ⟨its, r, ht, hz⟩ := I3.tuple hx
  show wpAny (model X.prog X.w) X.A (subscriptTail e (.Slice none none (some st) p2) (.ref a) (.ref s2.heap.objs.size)) (EP X pins σ Q) X.xe { s2 with heap := s2.heap.push { cls := .type "slice", data := .fields #[.none, .none, .int (-1) t] } }
  refine tail_any (ops := [.ref a, .ref s2.heap.objs.size]) ht.typeIs PyProof.Rows.slot_tuple_getitem.lookup (getItem_tuple_rev ht (Heap.IsSliceOf.new ..) ?_ ?_) (by with_unfolding_all rfl)
  · refine ⟨.ref _, _, I3.laid (t' := s2.toks) (o := .tup xs.reverse) (fun b ob q => Heap.get?_push_of_some _ q) (Nat.le_refl _) ?_, rfl, q2 _ (I3.hok.fresh (Nat.le_refl _))⟩
    exact ⟨by rw [List.length_reverse]; exact hz, _, r.reverse, IsTup.new _ _⟩
  · rw [List.size_toArray, ← r.length]
    exact hz
theorem pe_revK (K : PySem.W.Frag) (he : PE X e te) (hs : PE X st ts) (h : X.K = K := by rfl) : PE X (.Subscript e (.Slice none none (some st) p2) pos) (tRev K te ts) := by
  subst h
  exact pe_rev he hs
theorem sl_tupAK (K : PySem.W.Frag) (h : X.K = K := by rfl) : SlR X (rSlA K) := by subst h; exact sl_tupA
end
end KZ
end

section
set_option Elab.async false
set_option linter.all false
set_option maxRecDepth 100000
set_option maxHeartbeats 4000000
/-! list(d), None among d's keys -/
namespace KZ
open PySem PySem.Spec PyProof.Rows L2
section
variable {X : Cx}
def rListN (P : Program) (w : World) : List V → Hp → VK → Prop := fun xs H Q => ∃ a kvs, xs = [V.ref a] ∧ Rd H a (DN P w a kvs) ∧ ∀ p, H p = none → Q (.ref p) (upd H p (.lst (kvs.map fun kv => nV kv.1)))
theorem call_listN (P : Program) (w : World) (hc : X.calm = true) (hP : X.prog = P := by rfl) (hw : X.w = w := by rfl) : CallR X (.type "list") (rListN P w) := by
  subst hP hw
  intro pins s σ H xs us Q I r h
  obtain ⟨a, kvs, e, hd, q⟩ := h
  subst e
  obtain ⟨u, eu, rx⟩ := vals1 r
  subst eu
  obtain rfl : u = Value.ref a := rx
  obtain ⟨z, lo, vs, rk, dd⟩ := DN.rd (kvs := kvs) I.hok hd
  obtain ⟨ep, hat⟩ := dd.dictAt
  have hl : kvs.length = vs.length := Paired.length rk
  refine PySem.W.kdl_call (PySem.W.kdl_dict (knd := noneKind X.prog X.w) (kvs := vs) (ep := ep) lo) (I.ok.hd hc) hat (by rw [← hl]; exact z) fun h' tk acc' c' hkeep hS hacc => ?_
  refine ⟨.ref s.heap.objs.size, upd H s.heap.objs.size (.lst (kvs.map fun kv => nV kv.1)), I.laid hkeep (Nat.le_refl _) (show ObjOk X.prog X.w _ _ _ (.lst (kvs.map fun kv => nV kv.1)) from ⟨?_, acc'.toList, c', ?_, ?_⟩), rfl, q _ (I.hok.fresh (Nat.le_refl _))⟩
  · rw [List.length_map]; exact z
  · have el : acc'.toList.length = acc'.size := by simp
    refine vals_of_at (by rw [List.length_map, el, hacc.1, hl]) fun j x w h1 h2 => ?_
    obtain ⟨k, y, hky, hi⟩ := hacc.2 j w (by rw [← Array.getElem?_toList]; exact h2)
    have e1 : (kvs.map (·.1))[j]? = some k := by
      rw [KV.keys rk, List.getElem?_map, hky] <;> rfl
    have e2 : (kvs.map fun kv => nV kv.1)[j]? = some (nV k) := by
      have e3 : (kvs.map fun kv => nV kv.1) = (kvs.map (·.1)).map nV := by rw [List.map_map] <;> rfl
      rw [e3, List.getElem?_map, e1] <;> rfl
    rw [e2] at h1
    cases h1
    exact nV_rel hi
  · rw [Array.toArray_toList]; exact hS
end
end KZ
end

section
set_option Elab.async false
set_option linter.all false
set_option maxRecDepth 100000
set_option maxHeartbeats 4000000
/-! a caught error that is put into a list: try: .. except x as n: m.append(n); a call whose error is told of by the very state -/
namespace KZ
open PySem PySem.Spec PyProof.Rows L2
section
variable {X : Cx}
/-- what the clause wishes of an error of the body: n is slot i, m slot j, a list -/
def wPush (K : PySem.W.Frag) (c : Value) (i j : Nat) (Wo : WX) (D : Ends) : WX := fun cls d σ H =>
  ∃ C, cls = .ref C ∧ ∃ b, PySem.W.exmOne K cls c = some b ∧ (b = true → ∃ L xs, σ[j]? = some (some (.ref L)) ∧ H L = some (.lst xs) ∧ xs.length < sizeLine ∧ ∀ a, H a = none → D.nx ((σ.set i (some (.ref a))).set i none) (upd (upd H L (.lst (xs ++ [.ref a]))) a (EXO C a d))) ∧ (b = false → Wo cls d σ H)
variable {x n m : Str} {c : Value} {i j : Nat} {body : List Stmt} {np np2 mp ap apos cpos pos pos' : Pos} {tb : WX → TS} {Wo : WX}
theorem ps_try_push (hs : X.stack = X.env :: X.outer) (hf : X.env.frame = some X.env.locals) (hex : X.ex = []) (hN : X.N.Nodup) (hi : X.N[i]? = some n) (hln : X.env.kindOf n = some .local) (hj : X.N[j]? = some m) (hlm : X.env.kindOf m = some .local)
    (hc : Names X x c) (tk : Takes X Wo) (hij : i ≠ j) (hdm : (m == ("__debug__" : Str)) = false) (hcm : (m == ("__classdict__" : Str)) = false)
    (hbase : attributeBase (.Name m mp) "append" X.env (eval (.Name m mp) X.env) = eval (.Name m mp) X.env)
    (hfew : ((backTo cpos (starEach [.Name n np2] X.env)).all (fun x => !x.1) && (backToKw cpos (keywordEach [] X.env)).all (fun x => x.1.isSome)
      && decide (([.Name n np2] : List Expr).length + ([] : List Keyword).length + (if ([] : List Keyword).isEmpty then 0 else 1) < 30)) = true)
    (hline : (apos.endLine == cpos.line) = true) (hst : starEach [.Name n np2] X.env = (false, eval (.Name n np2) X.env) :: starEach [] X.env) (hplain : (backTo cpos (starEach [] X.env)).any (·.1) = false)
    (hdn : (n == ("__debug__" : Str)) = false) (hcn : (n == ("__classdict__" : Str)) = false)
    (hb : ∀ (W : WX) (pn : List (Addr × Obj)) (xe : Value → Shared → Prop), Takes (X.tr pn xe) W → PassesOwn (model X.prog X.w) X.A X.env xe → PSs (X.tr pn xe) body (tb W)) :
    PS X (.Try body [.ExceptHandler (some (.Name x np)) (some n) [.Expr (.Call (.Attribute (.Name m mp) "append" apos) [.Name n np2] [] cpos) ap] pos'] [] [] pos) (fun D σ H => tb (wPush X.K c i j Wo D) D σ H) := by
  refine ⟨fun pins s σ H D I h => ?_⟩
  have ok0 := I.ok
  have hfr : X.A.frames = some (X.env :: X.outer) := ok0.frames.trans (congrArg some hs)
  refine wpAny_Try_except ?_
  let Wl := wPush X.K c i j Wo D
  let hd1 : ExceptHandler := .ExceptHandler (some (.Name x np)) (some n) [.Expr (.Call (.Attribute (.Name m mp) "append" apos) [.Name n np2] [] cpos) ap] pos'
  refine wpAny_mono ((hb Wl (X.pn ++ pins) (fun e s₁ => wpAny (model X.prog X.w) X.A (noteFrame e X.env) (fun _ s₂ => wpAny (model X.prog X.w) X.A (setFlight e none) (fun _ s₃ => wpAny (model X.prog X.w) X.A (handleBy e X.env [hd1]) (SP X pins D) X.xe s₃) X.xe s₂) X.xe s₁)
    (fun u s' xx => ?_) PassesOwn.looking).run [] s σ H D (I.toTry _) h) (fun f s1 hsp => ?_) (fun e s1 he => he)
  · obtain ⟨a, B, sI, pins', σ', H', cls, d, rfl, J', nb, up, sky, na, os, ag, C, rfl, b, hb1, hyes, hno⟩ := xx
    have J : Inv X pins σ' H' sI := J'.ofTry ok0
    have sky' : Sky B (X.env :: X.outer) a (Zc (.ref C) d) X.env.locals s'.heap := hs ▸ sky
    show wpAny (model X.prog X.w) X.A (noteFrame (.ref a) X.env) _ _ _
    refine Sky.land Zc.steady hfr hf sky' fun h3 fl3 up3 => ?_
    have J3 : Inv X pins σ' H' { s' with heap := h3 } := J.landed nb fl3.1 (up.trans up3) os ag
    obtain ⟨oe3, vs3, he3, hz3, hd3⟩ := fl3.there
    have nfr : a ∉ frs (X.env :: X.outer) := fun hm => by
      obtain ⟨_, o', e', hnf⟩ := fl3.2.2.1.mem hm
      rw [he3] at e'
      cases e'
      exact hnf _ hd3
    have nL : a ≠ X.env.locals := fun z => nfr (List.mem_filterMap.mpr ⟨X.env, List.mem_cons_self, by rw [hf, z]⟩)
    have nF : a ∉ X.fs := fun hm => by
      obtain ⟨ev, hev, q⟩ := List.mem_filterMap.mp hm
      exact nfr (List.mem_filterMap.mpr ⟨ev, List.mem_cons_of_mem _ hev, q⟩)
    have nst : a ∉ frs X.stack := by rw [hs]; exact nfr
    have nB : B.get? a = none := fl3.2.1
    have nI : sI.heap.get? a = none := by
      cases q : sI.heap.get? a with
      | none => rfl
      | some o =>
        have z := nb a o q nst
        rw [nB] at z
        cases z
    have n0 : X.s_0.heap.get? a = none := by
      cases q : X.s_0.heap.get? a with
      | none => rfl
      | some o =>
        obtain ⟨o', z⟩ := J.base.there a o q (by rw [hex]; exact fun z => nomatch z)
        rw [nI] at z
        cases z
    have npin : ∀ p ∈ X.pn ++ pins, p.1 ≠ a := fun p hp z => by
      have q := (J.pin p hp).1
      rw [z, nI] at q
      cases q
    have S3 := J3.suite he3 hd3 na nL nF
    refine wpAny_handleBy_cons (codeAny_handlers_test ?_) (by intro q; cases q)
    have LT : PySem.W.Looks (model X.prog X.w) h3 (typeOf (.ref a)) (.ref C) := fun A Q E s k q => wpAny_typeOf_ref (k _ _ he3) (by rw [hz3.1]; exact q)
    have LM := PySem.W.exm_one (M := model X.prog X.w) (J3.kIn) LT hb1
    have test : ∀ {Q : Value → Shared → Prop} {E : Value → Shared → Prop}, Q c { s' with heap := h3 } → wpAny (model X.prog X.w) (X.A.mark (some (.ref a))) (eval (.Name x np) X.env) Q E { s' with heap := h3 } := fun {Q E} q => by
      rcases hc with ⟨hg, hdbg, hm' | ⟨hm', hv, hnn⟩⟩
      · exact ld_glob (X := X.suite a ((a, oe3) :: (X.pn ++ pins))) S3 hg hm' q hdbg
      · exact ld_blt (X := X.suite a ((a, oe3) :: (X.pn ++ pins))) S3 hg hm' hv q hnn hdbg
    refine test (LM.here ?_)
    cases b with
    | true =>
      refine codeAny_handlers_suite_as (HandSPX.lands_againZ fl3 fun h4 fl4 up4 => ?_)
      have J4 : Inv X pins σ' H' { s' with heap := h4 } := J.landed nb fl4.1 ((up.trans up3).trans up4) os ag
      obtain ⟨oe4, vs4, he4, hz4, hd4⟩ := fl4.there
      have S4 := J4.suite he4 hd4 na nL nF
      have hi' : i < σ'.length := by rw [J4.len]; exact (List.getElem?_eq_some_iff.mp hi).1
      refine store_ok (X := X.suite a ((a, oe4) :: (X.pn ++ pins))) (v := .ref a) S4 hN hi (.inl hln) rfl (fun s5 S5 => ?_) (.inr hln)
      obtain ⟨L, xs, hj', hL, xl, hnx⟩ := hyes rfl
      have nLa : L ≠ a := ne_of_none hL na
      have R := pss_one (X := X.suite a ((a, oe4) :: (X.pn ++ pins))) (ps_expr (X := X.suite a ((a, oe4) :: (X.pn ++ pins))) (pos := ap) (pe_bm (X := X.suite a ((a, oe4) :: (X.pn ++ pins))) PySem.F.plainAttrs_list PySem.F.slot_list_append PySem.F.type_list_append mt_append (pe_var (i := j) (pos := mp) hj (.inl hlm) hdm hcm) (pa_cons (pe_var (i := i) (pos := np2) hi (.inl hln) hdn hcn) pa_nil) hbase hfew hline hst hplain))
      let D' : Ends := { nx := fun σ6 H6 => σ6 = σ'.set i (some (.ref a)) ∧ H6 = upd H' L (.lst (xs ++ [.ref a])), rt := fun _ _ => False }
      refine wpAny_mono (R.run [] s5 _ H' D' S5 ?_) (fun f s6 hsp => ?_) (fun _ _ z => False.elim z)
      · exact ⟨.ref L, by rw [List.getElem?_set_ne hij]; exact hj', .inl ⟨rfl, _, SqL.of hL⟩, .ref a, List.getElem?_set_self hi', L, xs, .ref a, rfl, rfl, hL, xl, rfl, rfl⟩
      · cases f with
        | next =>
          obtain ⟨σ6, H6, S6, rfl, rfl⟩ := hsp
          have he6 := (S6.pin (a, oe4) (List.mem_append_left _ List.mem_cons_self)).1
          have T6 := track (S6.unsuite ok0) he6 hz4 hd4 (by rw [upd_ne (Ne.symm nLa)]; exact na) n0 npin nL
          exact gone_ok T6 hN hi hln fun s7 J7 => ⟨_, _, J7, hnx a na⟩
        | brk => obtain ⟨_, _, _, z⟩ := hsp; exact z.elim
        | cont => obtain ⟨_, _, _, z⟩ := hsp; exact z.elim
        | ret u => obtain ⟨_, _, _, _, _, z⟩ := hsp; exact z.elim
    | false =>
      show wpAny _ X.A (handleBy (.ref a) X.env []) _ _ _
      refine wpAny_handleBy_nil ?_
      obtain ⟨k1, k2, k3, oe, vs, T, oT, ts', he, hz, hd, h1, hr⟩ := id fl3
      unfold PySem.passOn
      refine wpAny_bind (wpAny_field he hd h1 ?_)
      rw [if_neg (show ¬ ((Value.ref T == Value.none) = true) from by simp)]
      have fin : wpAny (model X.prog X.w) X.A (setFlight (.ref a) X.env.frame) (fun _ s4 => wpAny (model X.prog X.w) X.A (throw (.ref a) : Sem Flow) (SP X pins D) X.xe s4) X.xe { s' with heap := h3 } := by
        rw [hf]
        refine HandSPX.setFlight_upZ fl3 fun h4 hh4 up4 => wpAny_throw (tk _ _ ⟨a, B, sI, pins, σ', H', .ref C, d, rfl, J, nb, (up.trans up3).trans up4, .inr (.inr (by rw [hs]; exact hh4)), na, os, ag, hno rfl⟩)
      first
        | exact wpAny_bind (wpAny_pure (wpAny_bind fin))
        | exact wpAny_bind fin
  · cases f with
    | next =>
      obtain ⟨σ', H', J', q⟩ := hsp
      exact wpAny_execs_nil ⟨σ', H', J'.ofTry ok0, q⟩
    | ret u =>
      obtain ⟨v, σ', H', J', r, q⟩ := hsp
      exact ⟨v, σ', H', J'.ofTry ok0, r, q⟩
    | _ =>
      obtain ⟨σ', H', J', q⟩ := hsp
      exact ⟨σ', H', J'.ofTry ok0, q⟩

end
section
variable {X : Cx} {k : Nat} {f : Addr} {fd : FuncData} {ps : List Str} {sp : Sp} {dvs : List V} {ds : List Value} {W : WX} {x : Str} {p pos : Pos} {e : Expr} {es : List Expr} {t : TA}
theorem run_fnW {pins : List (Addr × Obj)} {σ : L2.St} {H : Hp} {s : Shared} {Q : VK} {us : List Value} {vs : List V} (F : FnOk X.prog X.w X.K X.mg X.base (L2.CX X.prog X.w) k f fd ps sp) (hr : Room k X.A) (hb : Binds X.K fd ps ds) (hd : Vals dvs ds) (tk : Takes X W)
    (I : Inv X pins σ H s) (r : Vals vs us) (h : sp (vs ++ dvs) H Q (fun cls d H' => W cls d σ H')) : wpAny (model X.prog X.w) X.A (call (.ref f) us) (EP X pins σ Q) X.xe s := by
  have r2 : Vals (vs ++ dvs) (us ++ ds) := r.append hd
  have hl : (us ++ ds).length = ps.length := by rw [← r2.length]; exact F.len _ _ _ _ h
  refine wpAny_call (codeAny_mono (F.run X.A X.stack s H ⟨us, []⟩ (us ++ ds) (vs ++ dvs) Q _ hr I.env0 (hb s us I.kIn hl) r2 h) fun r s' hq => ?_)
  cases r with
  | error e => exact tk e s' (XE.of_call I (fun cls d H' h => h) hq)
  | ok fl =>
    cases fl with
    | ret u => exact I.after hq
    | next => exact False.elim hq
    | brk => exact False.elim hq
    | cont => exact False.elim hq
/-- f(e, ..), what is let out told of by the very state -/
def tCallW (sp : Sp) (dvs : List V) (W : WX) (t : TA) : TE := fun σ H Q => t σ H fun vs H1 => sp (vs ++ dvs) H1 Q (fun cls d H' => W cls d σ H')
theorem pe_callW (F : FnOk X.prog X.w X.K X.mg X.base (L2.CX X.prog X.w) k f fd ps sp) (hr : Room k X.A) (hg : Gl X x) (hm : X.mg x = some (.ref f)) (hk : PySem.W.keepIn X.K (.ref f) = true) (hb : Binds X.K fd ps ds) (hd : Vals dvs ds) (tk : Takes X W)
    (ha : PA X (e :: es) t) (hdb : (x == ("__debug__" : Str)) = false := by decide) (he : starEach (e :: es) X.env = (false, eval e X.env) :: starEach es X.env := by rfl) (hpl : (backTo pos (starEach es X.env)).any (·.1) = false := by rfl) :
    PE X (.Call (.Name x p) (e :: es) [] pos) (tCallW sp dvs W t) := by
  refine ⟨fun pins s σ H Q I h => ?_⟩
  refine wpAny_Call_Name_kw (ld_glob I hg hm ?_ hdb)
  refine PySem.W.callWith_K (h₀ := X.base) I.ok.mod.kin hk (thn (ha.run pos pins s σ H _ I h) fun us s1 ⟨vs, H1, I1, r, q⟩ => ⟨I1.kIn, ?_⟩) he hpl
  exact run_fnW F hr hb hd tk I1 r q
end
end KZ
end

section
set_option Elab.async false
set_option linter.all false
set_option maxRecDepth 100000
/-! the text's statements, by number -/
namespace K37
open PySem
def top (i : Nat) : Stmt := PySem.Challenge.pw_stayopen_k37_orders_and_quarrels_bent.main.body.getD i (.Pass ⟨0, 0, 0, 0⟩)
def mem (i j : Nat) : Stmt := match top i with
  | .ClassDef _ _ _ b _ _ _ _ _ _ _ => b.getD j (.Pass ⟨0, 0, 0, 0⟩)
  | s => s
end K37
end

section
set_option Elab.async false
set_option linter.all false
set_option maxRecDepth 100000
set_option maxHeartbeats 0
/-! the head: facts by names -/
namespace K37
open PySem L2 KZ

def fn0 : List He.DefD := [⟨("is_integer", none), "is_integer", "is_integer", defArgs (top 2), defBody (top 2), defScope (top 2), [], []⟩, ⟨("is_within", none), "is_within", "is_within", defArgs (top 3), defBody (top 3), defScope (top 3), [], []⟩, ⟨("is_name", none), "is_name", "is_name", defArgs (top 4), defBody (top 4), defScope (top 4), [], []⟩, ⟨("copied", none), "copied", "copied", defArgs (top 6), defBody (top 6), defScope (top 6), [], []⟩, ⟨("check_ask", none), "check_ask", "check_ask", defArgs (top 15), defBody (top 15), defScope (top 15), [], []⟩, ⟨("is_count", none), "is_count", "is_count", defArgs (top 16), defBody (top 16), defScope (top 16), [], []⟩, ⟨("need_asks", none), "need_asks", "need_asks", defArgs (top 17), defBody (top 17), defScope (top 17), [], []⟩, ⟨("told_lots", none), "told_lots", "told_lots", defArgs (top 18), defBody (top 18), defScope (top 18), [], []⟩, ⟨("parts_of", none), "parts_of", "parts_of", defArgs (top 19), defBody (top 19), defScope (top 19), [], []⟩, ⟨("zones", none), "zones", "zones", defArgs (top 14), defBody (top 14), defScope (top 14), [], []⟩]
def fn1 : List He.DefD := [⟨("is_same", none), "is_same", "is_same", defArgs (top 26), defBody (top 26), defScope (top 26), [], []⟩, ⟨("shows_order", none), "shows_order", "shows_order", defArgs (top 28), defBody (top 28), defScope (top 28), [], []⟩, ⟨("are_parts", none), "are_parts", "are_parts", defArgs (top 29), defBody (top 29), defScope (top 29), [], []⟩, ⟨("are_in_order", none), "are_in_order", "are_in_order", defArgs (top 30), defBody (top 30), defScope (top 30), [], []⟩, ⟨("are_answers_right", none), "are_answers_right", "are_answers_right", defArgs (top 31), defBody (top 31), defScope (top 31), [], []⟩, ⟨("is_along_time", none), "is_along_time", "is_along_time", defArgs (top 32), defBody (top 32), defScope (top 32), [], []⟩, ⟨("is_future", none), "is_future", "is_future", defArgs (top 33), defBody (top 33), defScope (top 33), [], []⟩, ⟨("are_lots_at_odds", none), "are_lots_at_odds", "are_lots_at_odds", defArgs (top 34), defBody (top 34), defScope (top 34), [], []⟩, ⟨("_law_well", none), "_law_well", "_law_well", defArgs (top 36), defBody (top 36), defScope (top 36), [], []⟩, ⟨("_law_draw", none), "_law_draw", "_law_draw", defArgs (top 37), defBody (top 37), defScope (top 37), [], []⟩]
def fn2 : List He.DefD := [⟨("_law_one", none), "_law_one", "_law_one", defArgs (top 38), defBody (top 38), defScope (top 38), [], []⟩, ⟨("_law_rows", none), "_law_rows", "_law_rows", defArgs (top 39), defBody (top 39), defScope (top 39), [], []⟩, ⟨("_law_made", none), "_law_made", "_law_made", defArgs (top 40), defBody (top 40), defScope (top 40), [], []⟩, ⟨("_law_parts", none), "_law_parts", "_law_parts", defArgs (top 41), defBody (top 41), defScope (top 41), [], []⟩, ⟨("_law_ahead", none), "_law_ahead", "_law_ahead", defArgs (top 42), defBody (top 42), defScope (top 42), [], []⟩, ⟨("_law_orders", none), "_law_orders", "_law_orders", defArgs (top 43), defBody (top 43), defScope (top 43), [], []⟩, ⟨("_law_is_order", none), "_law_is_order", "_law_is_order", defArgs (top 44), defBody (top 44), defScope (top 44), [], []⟩, ⟨("_law_zones", none), "_law_zones", "_law_zones", defArgs (top 45), defBody (top 45), defScope (top 45), [], []⟩, ⟨("_law_cross", none), "_law_cross", "_law_cross", defArgs (top 46), defBody (top 46), defScope (top 46), [], []⟩, ⟨("_law_crossing", none), "_law_crossing", "_law_crossing", defArgs (top 47), defBody (top 47), defScope (top 47), [], []⟩]
def fn3 : List He.DefD := [⟨("_law_is_quarrel", none), "_law_is_quarrel", "_law_is_quarrel", defArgs (top 48), defBody (top 48), defScope (top 48), [], []⟩, ⟨("_law_led", none), "_law_led", "_law_led", defArgs (top 49), defBody (top 49), defScope (top 49), [], []⟩, ⟨("_law_bent", none), "_law_bent", "_law_bent", defArgs (top 50), defBody (top 50), defScope (top 50), [], []⟩, ⟨("_law_looked", none), "_law_looked", "_law_looked", defArgs (top 51), defBody (top 51), defScope (top 51), [], []⟩, ⟨("_law_order_right", none), "_law_order_right", "_law_order_right", defArgs (top 52), defBody (top 52), defScope (top 52), [], []⟩, ⟨("_law_quarrels_right", none), "_law_quarrels_right", "_law_quarrels_right", defArgs (top 53), defBody (top 53), defScope (top 53), [], []⟩, ⟨("_law_led_quarrels_right", none), "_law_led_quarrels_right", "_law_led_quarrels_right", defArgs (top 54), defBody (top 54), defScope (top 54), [], []⟩, ⟨("_law_great_right", none), "_law_great_right", "_law_great_right", defArgs (top 55), defBody (top 55), defScope (top 55), [], []⟩, ⟨("_law_refused_right", none), "_law_refused_right", "_law_refused_right", defArgs (top 56), defBody (top 56), defScope (top 56), [], []⟩, ⟨("law", none), "law", "law", defArgs (top 57), defBody (top 57), defScope (top 57), [], []⟩]
def fn4 : List He.DefD := [⟨("BadAsk", some "__init__"), "__init__", "BadAsk.__init__", defArgs (mem 9 0), defBody (mem 9 0), defScope (mem 9 0), [], []⟩, ⟨("TooMany", some "__init__"), "__init__", "TooMany.__init__", defArgs (mem 10 0), defBody (mem 10 0), defScope (mem 10 0), [], []⟩, ⟨("Ask", some "__init__"), "__init__", "Ask.__init__", defArgs (mem 13 0), defBody (mem 13 0), defScope (mem 13 0), [.non, .non], []⟩, ⟨("Ask", some "is_ahead"), "is_ahead", "Ask.is_ahead", defArgs (mem 13 1), defBody (mem 13 1), defScope (mem 13 1), [], []⟩, ⟨("Order", some "__init__"), "__init__", "Order.__init__", defArgs (mem 23 0), defBody (mem 23 0), defScope (mem 23 0), [], []⟩, ⟨("Quarrel", some "__init__"), "__init__", "Quarrel.__init__", defArgs (mem 24 0), defBody (mem 24 0), defScope (mem 24 0), [], []⟩]
def fns : List He.DefD := fn0 ++ fn1 ++ fn2 ++ fn3 ++ fn4
def fa0 : List He.Fa := [.glo "is_integer", .glo "is_within", .glo "is_name", .glo "copied", .glo "check_ask", .glo "is_count", .glo "need_asks", .glo "told_lots", .glo "parts_of", .glo "zones", .glo "is_same", .glo "shows_order", .glo "are_parts", .glo "are_in_order", .glo "are_answers_right", .glo "is_along_time", .glo "is_future", .glo "are_lots_at_odds", .glo "_law_well", .glo "_law_draw", .glo "_law_one", .glo "_law_rows", .glo "_law_made", .glo "_law_parts", .glo "_law_ahead", .glo "_law_orders", .glo "_law_is_order", .glo "_law_zones", .glo "_law_cross", .glo "_law_crossing"]
def fa1 : List He.Fa := [.glo "_law_is_quarrel", .glo "_law_led", .glo "_law_bent", .glo "_law_looked", .glo "_law_order_right", .glo "_law_quarrels_right", .glo "_law_led_quarrels_right", .glo "_law_great_right", .glo "_law_refused_right", .glo "law", .glo "OpenError", .glo "BadAsk", .glo "TooMany", .glo "Ask", .glo "Verdict", .glo "Order", .glo "Quarrel", .free "isinstance", .free "int", .free "bool", .free "str", .free "len", .free "all", .free "list", .free "tuple", .free "dict", .free "range", .free "max", .free "min", .free "sorted"]
def fa2 : List He.Fa := [.free "repr", .free "abs", .free "enumerate", .int "MOST_ASKS" 1000, .str "LETTERS" "abcdefghijklmnopqrstuvwxyz", .mkr "Ask", .exm "BadAsk" "OpenError" true, .exm "TooMany" "OpenError" true, .cls "Ask", .noat "Ask" "client", .noat "Ask" "word", .noat "Ask" "begun", .noat "Ask" "ended", .noat "Ask" "told", .meth "Ask" "is_ahead", .mkr "Order", .mkr "Quarrel", .cls "Order", .cls "Quarrel", .noat "Order" "indexes", .noat "Quarrel" "word", .noat "Quarrel" "one", .noat "Quarrel" "other"]
def fas : List He.Fa := fa0 ++ fa1 ++ fa2
def nm0 : List Str := ["LETTERS", "is_integer", "is_within", "is_name", "copied", "OpenError", "BadAsk", "TooMany", "MOST_ASKS", "Ask", "zones", "check_ask", "is_count", "need_asks", "told_lots", "parts_of", "Verdict", "Order", "Quarrel", "is_same", "shows_order", "are_parts", "are_in_order", "are_answers_right", "is_along_time", "is_future", "are_lots_at_odds", "_law_well", "_law_draw", "_law_one"]
def nm1 : List Str := ["_law_rows", "_law_made", "_law_parts", "_law_ahead", "_law_orders", "_law_is_order", "_law_zones", "_law_cross", "_law_crossing", "_law_is_quarrel", "_law_led", "_law_bent", "_law_looked", "_law_order_right", "_law_quarrels_right", "_law_led_quarrels_right", "_law_great_right", "_law_refused_right"]
def nms : List Str := nm0 ++ nm1
def kits (K : PySem.W.Frag) : List (Value × Value × Bool) := [((.ref (He.ga K "BadAsk")), (.ref (He.ga K "BadAsk")), true), ((.ref (He.ga K "TooMany")), (.ref (He.ga K "TooMany")), true), ((.ref (He.ga K "Ask")), (.ref (He.ga K "Ask")), true), ((.ref (He.ga K "Order")), (.ref (He.ga K "Order")), true), ((.ref (He.ga K "Quarrel")), (.ref (He.ga K "Quarrel")), true), ((.ref (He.ga K "Quarrel")), (.ref (He.ga K "Order")), false), ((.type "NoneType"), (.ref (He.ga K "Ask")), false), ((.type "bool"), (.ref (He.ga K "Ask")), false), ((.type "int"), (.ref (He.ga K "Ask")), false), ((.type "str"), (.ref (He.ga K "Ask")), false), ((.type "list"), (.ref (He.ga K "Ask")), false), ((.type "tuple"), (.ref (He.ga K "Ask")), false), ((.type "dict"), (.ref (He.ga K "Ask")), false), ((.ref (He.ga K "Ask")), (.type "list"), false), ((.ref (He.ga K "Ask")), (.type "tuple"), false), ((.type "NoneType"), (.type "list"), false), ((.type "NoneType"), (.type "tuple"), false), ((.type "bool"), (.type "list"), false), ((.type "bool"), (.type "tuple"), false), ((.type "int"), (.type "list"), false), ((.type "int"), (.type "tuple"), false), ((.type "str"), (.type "list"), false), ((.type "str"), (.type "tuple"), false), ((.type "dict"), (.type "list"), false), ((.type "dict"), (.type "tuple"), false), ((.type "NoneType"), (.ref (He.ga K "Order")), false), ((.type "bool"), (.ref (He.ga K "Order")), false), ((.type "int"), (.ref (He.ga K "Order")), false), ((.type "str"), (.ref (He.ga K "Order")), false), ((.type "list"), (.ref (He.ga K "Order")), false), ((.type "tuple"), (.ref (He.ga K "Order")), false), ((.type "dict"), (.ref (He.ga K "Order")), false), ((.type "NoneType"), (.ref (He.ga K "Quarrel")), false), ((.type "bool"), (.ref (He.ga K "Quarrel")), false), ((.type "int"), (.ref (He.ga K "Quarrel")), false), ((.type "str"), (.ref (He.ga K "Quarrel")), false), ((.type "list"), (.ref (He.ga K "Quarrel")), false), ((.type "tuple"), (.ref (He.ga K "Quarrel")), false), ((.type "dict"), (.ref (He.ga K "Quarrel")), false)]
def kitsB (K : PySem.W.Frag) : Bool := (kits K).all fun x => decide (PySem.W.kitOne K x.1 x.2.1 = some x.2.2)
def askB (K : PySem.W.Frag) : Bool := He.eqO (PySem.W.findIn K (.ref (He.ga K "Ask")) "__class__") (some (some (.builtin "object.__class__"))) && (He.eqO (PySem.W.specialIn K (.builtin "object.__class__") "__get__") (some (some (.builtin "getset_descriptor.__get__"))) && (decide (PySem.W.takesIn K (.builtin "object.__class__") = some true) && decide (PySem.W.mroIn K (He.ga K "Ask") (.type "object") = some true)))
def ordB (K : PySem.W.Frag) : Bool := He.eqO (PySem.W.findIn K (.ref (He.ga K "Order")) "__class__") (some (some (.builtin "object.__class__"))) && (He.eqO (PySem.W.specialIn K (.builtin "object.__class__") "__get__") (some (some (.builtin "getset_descriptor.__get__"))) && (decide (PySem.W.takesIn K (.builtin "object.__class__") = some true) && decide (PySem.W.mroIn K (He.ga K "Order") (.type "object") = some true)))
def quaB (K : PySem.W.Frag) : Bool := He.eqO (PySem.W.findIn K (.ref (He.ga K "Quarrel")) "__class__") (some (some (.builtin "object.__class__"))) && (He.eqO (PySem.W.specialIn K (.builtin "object.__class__") "__get__") (some (some (.builtin "getset_descriptor.__get__"))) && (decide (PySem.W.takesIn K (.builtin "object.__class__") = some true) && decide (PySem.W.mroIn K (He.ga K "Quarrel") (.type "object") = some true)))
def exC (K : PySem.W.Frag) : Bool := errI K (He.ga K "BadAsk") ["part"] && (errI K (He.ga K "TooMany") ["what", "most"] && (kitsB K && (askB K && (ordB K && quaB K))))
def asW (fs cs : List Str) (ms : List (Str × Str)) (g : Addr → Option Obj) : List Addr :=
  let K0 := He.frG g [mainGlobals]
  let nx := fun a => ((g a).map He.refsD).getD []
  (asZ fs cs g ++ (ms.map fun p => let C := He.ga K0 p.1; let l := nx C; let i := He.ma (He.frG g (C :: l)) C p.2; i :: nx i).flatten).eraseDups
abbrev R : PySem.W.OpenRow := PySem.W.OpenLaw.row PySem.Challenge.rw_stayopen_k37_orders_and_quarrels_bent
abbrev tfs : List He.Defn := []
def selF : List Str := (["is_integer", "is_within", "is_name", "copied", "check_ask", "is_count", "need_asks", "told_lots", "parts_of", "zones", "is_same", "shows_order"] : List Str) ++ (["are_parts", "are_in_order", "are_answers_right", "is_along_time", "is_future", "are_lots_at_odds", "_law_well", "_law_draw", "_law_one", "_law_rows", "_law_made", "_law_parts"] : List Str) ++ (["_law_ahead", "_law_orders", "_law_is_order", "_law_zones", "_law_cross", "_law_crossing", "_law_is_quarrel", "_law_led", "_law_bent", "_law_looked", "_law_order_right", "_law_quarrels_right"] : List Str) ++ (["_law_led_quarrels_right", "_law_great_right", "_law_refused_right", "law"] : List Str)
def selC : List Str := ["OpenError", "BadAsk", "TooMany", "Ask", "Verdict", "Order", "Quarrel"]
abbrev sel : (Addr → Option Obj) → List Addr := asW selF selC [("Ask", "is_ahead")]
abbrev hk : PySem.W.Hook := hookY sel fas fns [] tfs exC
def ob (s : PySem.W.SharedT) : He.AlX := obsY sel fas fns [] tfs exC (HandSHeadRun.getT s)
theorem ob_eq (s : PySem.W.SharedT) : ob s = hk.obs s.abs := obsY_eq _ _ _ _ _ _ (HandSHeadRun.getT_eq s)
abbrev Q0 : Program := PySem.W.view R.prog [57]
open PySem.W PySem.Calls PyProof.Rows in
noncomputable abbrev sawL (w : World) (s : PySem.W.SharedT) : Bool := HandSHeadRun.looksF R.prog (boot_heap w.params) s.abs
open PySem.W PySem.Calls PyProof.Rows in
noncomputable abbrev sawS (s : PySem.W.SharedT) := HandSHeadRun.seenQ Q0 nms (importedModules R.prog.main.body) (fun s => xlAt Q0 [] s && recOk R.toRowW.records s) s.abs
theorem look (w : World) (os : OsState) : (endH 20000 R.prog w os).map (sawL w) = some true := by
  kernel_rfl
theorem seen (w : World) (os : OsState) : (endH 20000 R.prog w os).map sawS = some (PySem.W.openGood Q0 nms) := by
  kernel_rfl
theorem obW (w : World) (os : OsState) : (endH 20000 R.prog w os).map ob = some (hk.val w) := by
  kernel_rfl
theorem run (w : World) : HandSHeadRun.RunEq R Q0 hk ob 20000 nms w := by
  intro os
  obtain ⟨r1, h1, e1⟩ := endH_map (look w os)
  obtain ⟨r2, h2, e2⟩ := endH_map (seen w os)
  obtain ⟨r3, h3, e3⟩ := endH_map (obW w os)
  obtain rfl := Option.some.inj (h1.symm.trans h2)
  obtain rfl := Option.some.inj (h1.symm.trans h3)
  rw [h1]
  exact congrArg some (Prod.ext e1 (Prod.ext e2 e3))
end K37
end

section
set_option Elab.async false
set_option linter.all false
set_option maxRecDepth 100000
set_option maxHeartbeats 4000000
/-! the checks -/
namespace K37
open PySem L2 KZ
abbrev sIsInt : Stmt := top 2
abbrev sIsName : Stmt := top 4

theorem Dv.mono {K : PySem.W.Frag} {H H' : Hp} (e : Same H H') {v : V} {d : PyData} (h : Dv K H v d) : Dv K H' v d := by
  have sT : ∀ {a xs}, SqT K H a xs → SqT K H' a xs := fun h => by
    rcases h with (h | ⟨o, h⟩) | h
    · exact .inl (.inl (e _ _ h))
    · exact .inl (.inr ⟨o, e _ _ h⟩)
    · exact .inr h
  have rD : ∀ {a u}, Rd H a u → Rd H' a u := fun h => by
    rcases h with h | ⟨o, h⟩
    · exact .inl (e _ _ h)
    · exact .inr ⟨o, e _ _ h⟩
  refine Dv.rec (motive_1 := fun v d _ => Dv K H' v d) (motive_2 := fun v d _ => Dvs K H' v d) (motive_3 := fun v d _ => Dks K H' v d) .non .bl .int .str ?_ ?_ ?_ .nil ?_ .nil ?_ h
  · intro a xs ds h1 _ i; exact .lst (e.seq h1) i
  · intro a xs ds h1 _ i; exact .tup (sT h1) i
  · intro a xs ds h1 _ i; exact .dic (rD h1) i
  · intro v vs d ds _ _ i j; exact .cons i j
  · intro k v kvs d ps _ _ i j; exact .cons i j
/-- the name of a datum's class -/
def tyN : PyData → String
  | .none => "NoneType" | .bool _ => "bool" | .int _ => "int" | .str _ => "str" | .list _ => "list" | .tuple _ => "tuple" | .dict _ => "dict"
theorem Dv.ty {K : PySem.W.Frag} {H : Hp} {v : V} {d : PyData} (h : Dv K H v d) : TyX K H v (.type (tyN d)) := by
  cases h with
  | non => exact .base .non
  | bl b => exact .base (.bl b)
  | int i => exact .base (.int i)
  | str x => exact .base (.str x)
  | lst hs _ =>
    rcases hs with (q | ⟨o, q⟩) | ⟨o, its, n, q, c, _⟩
    · exact .base (.lst q)
    · exact .base (.frz q)
    · exact .kList q c
  | tup hs _ =>
    rcases hs with (q | ⟨o, q⟩) | ⟨o, its, n, q, c, _⟩
    · exact .base (.tup q)
    · exact .fTuple q
    · exact .kTuple q c
  | dic hs _ =>
    rcases hs with q | ⟨o, q⟩
    · exact .base (.dK q)
    · exact .fDict q
def isT (t : String) : PyData → Bool := fun d => match t, d with
  | "int", .int _ => true
  | "int", .bool _ => true
  | "bool", .bool _ => true
  | "str", .str _ => true
  | "list", .list _ => true
  | "tuple", .tuple _ => true
  | "dict", .dict _ => true
  | _, _ => false
/-- isinstance(x, c) of data, c a built-in class -/
def rIsD (K : PySem.W.Frag) (c : String) : List V → Hp → VK → Prop := fun xs H Q => ∃ (v : V) (d : PyData), xs = [v, .ty c] ∧ Dv K H v d ∧ Q (.bl (isT c d)) H
def clsL : List String := ["int", "bool", "str", "list", "tuple", "dict"]
def isTN (c t : String) : Bool := decide (t = c) || (decide (c = "int") && decide (t = "bool"))
theorem kit_tab : ∀ c ∈ clsL, ∀ t ∈ ["NoneType", "bool", "int", "str", "list", "tuple", "dict"], kitB t c = some (isTN c t) := by decide +kernel
theorem isT_tab : ∀ c ∈ clsL, isTN c "NoneType" = isT c .none ∧ (∀ b, isTN c "bool" = isT c (.bool b)) ∧ (∀ i, isTN c "int" = isT c (.int i)) ∧ (∀ x, isTN c "str" = isT c (.str x)) ∧ (∀ l, isTN c "list" = isT c (.list l)) ∧ (∀ l, isTN c "tuple" = isT c (.tuple l)) ∧ ∀ l, isTN c "dict" = isT c (.dict l) := by
  intro c hc
  simp only [clsL, List.mem_cons, List.not_mem_nil, or_false] at hc
  rcases hc with rfl | rfl | rfl | rfl | rfl | rfl <;> exact ⟨rfl, fun _ => rfl, fun _ => rfl, fun _ => rfl, fun _ => rfl, fun _ => rfl, fun _ => rfl⟩
theorem kit_d {K : PySem.W.Frag} {c : String} (hc : c ∈ clsL) (d : PyData) : PySem.W.kitOne K (.type (tyN d)) (.type c) = some (isT c d) := by
  obtain ⟨h1, h2, h3, h4, h5, h6, h7⟩ := isT_tab c hc
  have k := kit_tab c hc
  refine kit_ty ?_
  cases d with
  | none => rw [← h1]; exact k "NoneType" (by decide)
  | bool b => rw [← h2]; exact k "bool" (by decide)
  | int i => rw [← h3]; exact k "int" (by decide)
  | str x => rw [← h4]; exact k "str" (by decide)
  | list x => rw [← h5]; exact k "list" (by decide)
  | tuple x => rw [← h6]; exact k "tuple" (by decide)
  | dict x => rw [← h7]; exact k "dict" (by decide)
theorem call_isD {X : Cx} {c : String} (hc : c ∈ clsL := by decide) : CallR X (.builtin "isinstance") (rIsD X.K c) := by
  intro pins s σ H xs us Q I r h
  obtain ⟨v, d, rfl, hd, q⟩ := h
  exact call_isi pins s σ H _ us Q I r ⟨v, .ty c, _, _, _, rfl, .ty c, Dv.ty hd, kit_d hc d, q⟩

structure B0 (mg : Str → Option Value) : Prop where
  isi : mg "isinstance" = none
  int : mg "int" = none
  bool : mg "bool" = none
  str : mg "str" = none
  len : mg "len" = none
  all : mg "all" = none
  list : mg "list" = none
  tuple : mg "tuple" = none
  dict : mg "dict" = none
def isInt : PyData → Bool
  | .int _ => true
  | _ => false
def spIsInt (K : PySem.W.Frag) : Sp := fun vs H Q _ => ∃ v d, vs = [v] ∧ Dv K H v d ∧ Q (.bl (isInt d)) H
section
variable {P : Program} {w : World} {K : PySem.W.Frag} {mg : Str → Option Value} {base : Heap}
theorem scIsInt : FnScope ["value"] ["value"] (defScope sIsInt) := ⟨rfl, rfl, rfl, by decide +kernel, rfl, by decide +kernel, by decide +kernel⟩
theorem ok_is_integer {f : Addr} {fd : FuncData} (F : Fun K "is_integer" "is_integer" sIsInt f fd) (T : B0 mg) : FnOk P w K mg base CX0 1 f fd ["value"] (spIsInt K) := by
  refine F.ok scIsInt (fun vs H Q E h => ?_) (fun cdv A outer s H vs Q E hr h => ?_)
  · obtain ⟨v, d, rfl, _⟩ := h
    rfl
  · obtain ⟨v, d, rfl, hd, q⟩ := h
    refine ⟨_, pss_one (ps_ret (pe_and (pe_callB (call_isD (c := "int")) (by rfl) T.isi (by decide +kernel) (pa_cons (pv 0) (pa_cons (pe_bltn (v := .ty "int") (by rfl) T.int (by decide +kernel) rfl) pa_nil)))
      (pe_one (pe_not (pe_callB (call_isD (c := "bool")) (by rfl) T.isi (by decide +kernel) (pa_cons (pv 0) (pa_cons (pe_bltn (v := .ty "bool") (by rfl) T.bool (by decide +kernel) rfl) pa_nil))))))), ?_⟩
    refine ⟨v, rfl, v, d, rfl, hd, _, rfl, ?_⟩
    cases e : isT "int" d with
    | false =>
      refine iteF ?_
      cases d <;> first | exact q | cases e
    | true =>
      refine iteT ⟨v, rfl, v, d, rfl, hd, _, rfl, ?_⟩
      cases d <;> first | exact q | cases e
end
end K37
end

section
set_option Elab.async false
set_option linter.all false
set_option maxRecDepth 100000
set_option maxHeartbeats 4000000
/-! the checks, further -/
namespace K37
open PySem L2 KZ
abbrev lets : Str := "abcdefghijklmnopqrstuvwxyz"
def within (l m : Int) : PyData → Bool
  | .int i => decide (l ≤ i) && decide (i ≤ m)
  | _ => false
def isName : PyData → Bool
  | .str x => decide (1 ≤ x.length) && decide (x.length ≤ 8) && x.cps.toList.all fun c => decide (c ∈ lets.cps.toList)
  | _ => false
/-- the program's constants and defs, as the top has left them -/
structure C0 (mg : Str → Option Value) (fI : Addr) : Prop where
  lets : ∃ t, mg "LETTERS" = some (.str lets t)
  gI : mg "is_integer" = some (.ref fI)
def spWithin (K : PySem.W.Frag) : Sp := fun vs H Q _ => ∃ v d l m, vs = [v, .int l, .int m] ∧ Dv K H v d ∧ Q (.bl (within l m d)) H
def spPlace (K : PySem.W.Frag) : Sp := fun vs H Q _ => ∃ v d, vs = [v] ∧ Dv K H v d ∧ Q (.bl (within 0 999999999 d)) H
/-- the heap may have grown -/
def spName (K : PySem.W.Frag) : Sp := fun vs H Q _ => ∃ v d, vs = [v] ∧ Dv K H v d ∧ (∀ x, d = .str x → x.length ≤ 1000) ∧ ∀ H', Same H H' → Q (.bl (isName d)) H'
theorem yes_go {σ : L2.St} {H : Hp} {A B : Hp → Prop} (h : A H) : tYes σ H (fun b H3 => if b = true then A H3 else B H3) := by
  show (if true = true then A H else B H)
  rw [if_pos rfl]
  exact h
theorem same_new {H : Hp} {p : Addr} {o : HO} (h : H p = none) : Same H (upd H p o) := fun b u e => by
  rw [upd_ne (ne_of_none e h)]
  exact e
section
variable {P : Program} {w : World} {K : PySem.W.Frag} {mg : Str → Option Value} {base : Heap} {fI fW : Addr} {dI dW : FuncData}
theorem scName : FnScope ["value", "letter"] ["value"] (defScope sIsName) := ⟨rfl, rfl, rfl, by decide +kernel, rfl, by decide +kernel, by decide +kernel⟩
theorem ok_is_name {f : Addr} {fd : FuncData} (F : Fun K "is_name" "is_name" sIsName f fd) (T : B0 mg) (U : C0 mg fI) : FnOk P w K mg base CX0 1 f fd ["value"] (spName K) := by
  obtain ⟨t, hl⟩ := U.lets
  refine F.ok scName (fun vs H Q E h => ?_) (fun cdv A outer s H vs Q E hr h => ?_)
  · obtain ⟨v, d, rfl, _⟩ := h
    rfl
  · obtain ⟨v, d, rfl, hd, hsz, q⟩ := h
    refine ⟨_, pss_cons (ps_if (PW.pt (pw_or (pt_not (pt_val (pe_callB (call_isD (c := "str")) (by rfl) T.isi (by decide +kernel) (pa_cons (pv 0) (pa_cons (pe_bltn (v := .ty "str") (by rfl) T.str (by decide +kernel) rfl) pa_nil)))))
        (pw_or1 (pt_not (pt_chain op_le op_le pe_int (pe_callB call_len (by rfl) T.len PySem.boot_len (pa_cons (pv 0) pa_nil)) pe_int)))))
        (pss_one (ps_ret pe_bl)) pss_nil)
      (pss_one (ps_ret (pe_callB (cr_all rfl) (by rfl) T.all (by decide +kernel) (pa_cons (pe_lc (own := [("letter", 1)]) (g := gName 1) (tt := tYes) (by rfl) scName.nd (pi_str (pv 0))
        (blkOk_by (own := [("letter", 1)]) (N := ["value", "letter"]) (sc := defScope sIsName) (by decide +kernel)) (fun _ _ _ _ _ => pg_name (i := 1) scName.nd rfl (Or.inl rfl)) (fun _ _ _ _ _ => pts_nil)
        (fun _ _ _ _ _ => pe_cmpR op_in_sign (pv 1) (pe_glob (v := .str lets) (by rfl) hl ⟨_, rfl⟩) (by rfl))) pa_nil)))), ?_⟩
    refine ⟨v, rfl, v, d, rfl, hd, _, rfl, ?_⟩
    cases d with
    | str x =>
      cases hd
      have hx := hsz x rfl
      refine iteF ⟨_, rfl, .str x, x.length, rfl, ⟨Nat.le_trans hx (by decide), rfl⟩, 1, (x.length : Int), rfl, rfl, _, rfl, ?_⟩
      refine ite2 (fun h1 => ⟨_, _, rfl, rfl, _, rfl, ?_⟩) (fun h1 => ⟨_, rfl, ?_⟩)
      · have g1 : 1 ≤ x.length := by have := of_decide_eq_true h1; omega
        by_cases h2 : x.length ≤ 8
        · rw [show decide ((x.length : Int) ≤ 8) = true from decide_eq_true (by omega)]
          refine iteF ⟨.str x, rfl, x, rfl, fun D hD => lc_it walk_str (fun i H' => H' = upd H D (.lst ((x.cps.toList.take i).map fun c => V.bl (decide (c ∈ lets.cps.toList))))) (by simp) (fun _ _ _ _ => True.intro) ?_ ?_⟩
          · rintro i y H1 H2 hi rfl ⟨rfl, c, hc, rfl⟩
            have hlt : i < x.cps.toList.length := by simpa using hi
            refine ⟨rfl, ?_⟩
            refine yes_go ?_
            refine ⟨_, rfl, c, lets, rfl, rfl, _, upd_same, ?_, ?_⟩
            · rw [List.length_map, List.length_take]
              have : x.cps.toList.length = x.length := by simp [Str.length]
              exact Nat.lt_of_le_of_lt (Nat.min_le_left _ _) (Nat.lt_of_lt_of_le hlt (by rw [this]; exact Nat.le_trans hx (by decide)))
            · rw [upd_upd]
              congr 2
              have e : x.cps.toList[i]? = some c := by simpa using hc
              rw [List.take_add_one, e]
              simp
          · rintro H1 rfl
            refine ⟨D, x.cps.toList.map fun c => decide (c ∈ lets.cps.toList), rfl, SqL.of ?_, ?_⟩
            · rw [upd_same, List.map_map, List.take_of_length_le (by simp)]
              rfl
            · have e : isName (.str x) = (x.cps.toList.map fun c => decide (c ∈ lets.cps.toList)).all id := by
                simp [isName, g1, h2, List.all_map]
              rw [← e]
              exact q _ (same_new hD)
        · rw [show decide ((x.length : Int) ≤ 8) = false from decide_eq_false (by omega)]
          have e : isName (.str x) = false := by simp [isName, h2]
          rw [e] at q
          exact iteT (q H (Same.refl H))
      · have e : isName (.str x) = false := by
          have g1 : ¬ 1 ≤ x.length := fun z => h1 (decide_eq_true (by omega))
          simp [isName, g1]
        rw [e] at q
        exact iteT (q H (Same.refl H))
    | _ => exact iteT (iteT (q H (Same.refl H)))
end
end K37
end

section
set_option Elab.async false
set_option linter.all false
set_option maxRecDepth 100000
set_option maxHeartbeats 4000000
/-! copied -/
namespace K37
open PySem L2 KZ
abbrev ka : Str := "a"
abbrev kvA : List (Key × V) := [(Sum.inl (0 : Int), V.int 1)]
abbrev sCopied : Stmt := top 6
/-- what may be copied: so deep -/
def Cp : Nat → PyData → Prop
  | _, .none => True
  | _, .bool _ => True
  | _, .int _ => True
  | _, .str _ => True
  | n + 1, .list ds => ds.length ≤ 2000 ∧ ∀ d ∈ ds, Cp n d
  | n + 1, .tuple ds => ds.length ≤ 2000 ∧ ∀ d ∈ ds, Cp n d
  | _ + 1, .dict ps => ps = [(.int 0, .int 1)]
  | 0, _ => False
def NoFrz (G : Hp) : Prop := ∀ b o kvs, G b ≠ some (.frz o (.dK kvs))
/-- G' holds more than G, and nothing of what H had beside G -/
def Beside (H G G' : Hp) : Prop := ∀ b, H b ≠ none → G b = none → G' b = none
def spCopied (n : Nat) (K : PySem.W.Frag) : Sp := fun vs H Q _ => ∃ v d G, vs = [v] ∧ Cp n d ∧ Same G H ∧ NoFrz G ∧ Dv K G v d ∧
  ∀ v' G' H', Same G G' → NoFrz G' → Beside H G G' → Same G' H' → Same H H' → Dv K G' v' d → Q v' H'
theorem noFrz_upd {G : Hp} {p : Addr} {o : HO} (h : NoFrz G) (ho : ∀ x u, o ≠ .frz x (.dK u)) : NoFrz (upd G p o) := fun b x u e => by
  by_cases hb : b = p
  · rw [hb, upd_same] at e
    exact ho x u (Option.some.inj e)
  · rw [upd_ne hb] at e
    exact h b x u e
theorem Dvs.len {K : PySem.W.Frag} {H : Hp} : ∀ {vs : List V} {ds : List PyData}, Dvs K H vs ds → vs.length = ds.length
  | _, _, .nil => rfl
  | _, _, .cons _ t => congrArg (· + 1) (Dvs.len t)
theorem Dvs.get {K : PySem.W.Frag} {H : Hp} : ∀ {vs : List V} {ds : List PyData} {i : Nat} {v : V}, Dvs K H vs ds → vs[i]? = some v → ∃ d, ds[i]? = some d ∧ Dv K H v d
  | _, _, i, v, .nil, e => by simp at e
  | _, _, 0, v, .cons h _, e => by
    simp at e
    subst e
    exact ⟨_, rfl, h⟩
  | _, _, i + 1, v, .cons _ t, e => by
    obtain ⟨d, h1, h2⟩ := Dvs.get (i := i) t (by simpa using e)
    exact ⟨d, by simpa using h1, h2⟩
theorem Dvs.snoc {K : PySem.W.Frag} {H : Hp} : ∀ {vs : List V} {ds : List PyData} {v : V} {d : PyData}, Dvs K H vs ds → Dv K H v d → Dvs K H (vs ++ [v]) (ds ++ [d])
  | _, _, _, _, .nil, h => .cons h .nil
  | _, _, _, _, .cons h t, h' => .cons h (Dvs.snoc t h')
theorem Dvs.mono {K : PySem.W.Frag} {H H' : Hp} (e : Same H H') : ∀ {vs : List V} {ds : List PyData}, Dvs K H vs ds → Dvs K H' vs ds
  | _, _, .nil => .nil
  | _, _, .cons h t => .cons (Dv.mono e h) (Dvs.mono e t)
theorem sqT_mono {K : PySem.W.Frag} {H H' : Hp} (e : Same H H') {a : Addr} {xs : List V} (h : SqT K H a xs) : SqT K H' a xs := by
  rcases h with (h | ⟨o, h⟩) | h
  · exact .inl (.inl (e _ _ h))
  · exact .inl (.inr ⟨o, e _ _ h⟩)
  · exact .inr h
theorem dc_it {J : It} {n : Nat} {Gd : Hp → Prop} {Y : Nat → Hp → V → Hp → Prop} (w : Walk J n Gd Y) {g : TG} {tt : TT} {tk tv : TE} {vs : List Nat} {σ : L2.St} {H1 : Hp} {D : Addr} {Qd : Hp → Prop} (Pv : Nat → Hp → Prop) (h0 : Pv 0 (upd H1 D (.dK []))) (hG : ∀ i H, i ≤ n → Pv i H → Gd H)
    (hs : ∀ i x H H', i < n → Pv i H → Y i H x H' → g x (wipe σ vs) H' fun σ2 H2 => wipe σ2 vs = wipe σ vs ∧ tt σ2 H2 fun b H3 =>
      if b = true then tk σ2 H3 fun y H4 => tv σ2 H4 fun z H5 => ∃ kvs k, y = kV k ∧ H5 D = some (.dK kvs) ∧ kvs.length < sizeLine ∧ Pv (i + 1) (upd H5 D (.dK (putK kvs k z))) else Pv (i + 1) H3) (hd : ∀ H, Pv n H → Qd H) :
    ∃ W : Nat → Nat → Hp → Prop, (∃ m, W 0 m (upd H1 D (.dK []))) ∧ ∀ i m H, W i m H →
      (J.stop i H ∧ Qd H) ∨ (J.go i H ∧ ∃ Nx : Hp → Prop, (∀ H', Nx H' → ∃ m', m' < m ∧ W (i + 1) m' H') ∧ ∀ x H', J.yld i H x H' → g x (wipe σ vs) H' fun σ2 H2 => wipe σ2 vs = wipe σ vs ∧ tt σ2 H2 fun b H3 =>
        if b = true then tk σ2 H3 fun y H4 => tv σ2 H4 fun z H5 => ∃ kvs k, y = kV k ∧ H5 D = some (.dK kvs) ∧ kvs.length < sizeLine ∧ Nx (upd H5 D (.dK (putK kvs k z))) else Nx H3) := by
  refine ⟨fun i m H => m = n - i ∧ i ≤ n ∧ Pv i H, ⟨n, by simp, Nat.zero_le _, h0⟩, ?_⟩
  rintro i m H ⟨rfl, hi, p⟩
  have q := hG i H hi p
  by_cases hlt : i < n
  · exact .inr ⟨w.goes i H hlt q, Pv (i + 1), fun H' p' => ⟨n - (i + 1), by omega, rfl, hlt, p'⟩, fun x H' y => hs i x H H' hlt p (w.yields i H x H' hlt q y)⟩
  · have e : i = n := by omega
    subst e
    exact .inl ⟨w.stops H q, hd H p⟩
/-- the state of a copying comprehension behind i items -/
structure CpAt (K : PySem.W.Frag) (H G : Hp) (D : Addr) (ds : List PyData) (i : Nat) (H' : Hp) : Prop where
  ex : ∃ (Gi : Hp) (ys : List V), Same G Gi ∧ NoFrz Gi ∧ Beside H G Gi ∧ Gi D = none ∧ Same Gi H' ∧ (∀ b o, b ≠ D → H b = some o → H' b = some o) ∧ H' D = some (.lst ys) ∧ Dvs K Gi ys (ds.take i)
theorem CpAt.start {K : PySem.W.Frag} {H G : Hp} {D : Addr} {ds : List PyData} (hG : Same G H) (hn : NoFrz G) (hD : H D = none) : CpAt K H G D ds 0 (upd H D (.lst [])) :=
  ⟨G, [], Same.refl G, hn, fun _ _ z => z, hG.free hD, hG.trans (same_new hD), fun b o hb e => by rw [upd_ne hb]; exact e, upd_same, .nil⟩
/-- one more item copied -/
theorem CpAt.step {K : PySem.W.Frag} {H G H' : Hp} {D : Addr} {ds : List PyData} {i : Nat} {d : PyData} {v : V} (hDn : H D = none) (c : CpAt K H G D ds i H') (hd : ds[i]? = some d) (hv : Dv K G v d) {n : Nat} (hc : Cp n d) (hz : ds.length ≤ 2000) {Q : VK}
    (h : ∀ v' H'' ys, H'' D = some (.lst ys) → ys.length < sizeLine → CpAt K H G D ds (i + 1) (upd H'' D (.lst (ys ++ [v']))) → Q v' H'') : spCopied n K [v] H' Q E0 := by
  obtain ⟨Gi, ys, s1, nf, bs, gD, s2, kp, hDl, dv⟩ := c.ex
  refine ⟨v, d, Gi, rfl, hc, s2, nf, Dv.mono s1 hv, fun v' G' H'' e1 nf' be e2 e3 dv' => ?_⟩
  have gD' : G' D = none := be D (by rw [hDl]; exact fun z => nomatch z) gD
  have hl : ys.length ≤ 2000 := by
    rw [Dvs.len dv, List.length_take]
    exact Nat.le_trans (Nat.min_le_right _ _) hz
  refine h v' H'' ys (e3 _ _ hDl) (Nat.lt_of_le_of_lt hl (by decide)) ⟨G', ys ++ [v'], s1.trans e1, nf', fun b hb z => be b ?_ (bs b hb z), gD', fun b o e => ?_, fun b o hb e => ?_, upd_same, ?_⟩
  · cases q : H b with
    | none => exact absurd q hb
    | some o =>
      have hbD : b ≠ D := fun z => by
        rw [z, hDn] at q
        cases q
      rw [kp b o hbD q]
      exact fun z => nomatch z
  · rw [upd_ne (ne_of_none e gD')]
    exact e2 _ _ e
  · rw [upd_ne hb]
    exact e3 _ _ (kp b o hb e)
  · rw [List.take_add_one, hd]
    exact Dvs.snoc (Dvs.mono e1 dv) dv'

theorem dks_a {K : PySem.W.Frag} {H : Hp} {kvs : List (Key × V)} (h : Dks K H kvs [(.int 0, .int 1)]) : kvs = kvA := by
  generalize hp : [(PyData.int 0, PyData.int 1)] = ps at h
  cases h with
  | nil => cases hp
  | @cons k v kvs d ps h1 h2 =>
    injection hp with e1 e2
    injection e1 with e3 e4
    subst e4
    subst e2
    cases h2
    cases h1
    cases k with
    | inl i =>
      injection e3 with e5
      subst e5
      rfl
    | inr x => cases e3
theorem CpAt.list {K : PySem.W.Frag} {H G H' : Hp} {D : Addr} {ds : List PyData} {Q : VK} (hD : H D = none) (c : CpAt K H G D ds ds.length H')
    (q : ∀ v' G' H', Same G G' → NoFrz G' → Beside H G G' → Same G' H' → Same H H' → Dv K G' v' (.list ds) → Q v' H') : Q (.ref D) H' := by
  obtain ⟨Gi, ys, e1, nf', bs, gD, e2, kp, hl, dv⟩ := c.ex
  rw [List.take_length] at dv
  have hb : ∀ b, H b ≠ none → b ≠ D := fun b z e => z (e ▸ hD)
  refine q (.ref D) (upd Gi D (.lst ys)) H' (e1.trans (same_new gD)) (noFrz_upd nf' fun _ _ z => nomatch z) (fun b z g => by rw [upd_ne (hb b z)]; exact bs b z g) (fun b o e => ?_) (fun b o e => kp b o (hb b (by rw [e]; exact fun z => nomatch z)) e) (.lst (SqL.of upd_same) (Dvs.mono (same_new gD) dv))
  by_cases z : b = D
  · rw [z, upd_same] at e
    rw [z, hl]
    exact e
  · rw [upd_ne z] at e
    exact e2 _ _ e
theorem CpAt.tuple {K : PySem.W.Frag} {H G H' : Hp} {D : Addr} {ds : List PyData} {Q : VK} (hD : H D = none) (c : CpAt K H G D ds ds.length H')
    (q : ∀ v' G' H', Same G G' → NoFrz G' → Beside H G G' → Same G' H' → Same H H' → Dv K G' v' (.tuple ds) → Q v' H') :
    tCB (fun xs H Q => ∃ p ys, xs = [.ref p] ∧ ((SqL K H p ys ∧ ∀ l, H l = none → Q (.ref l) (upd H l (.tup ys))) ∨ (SqT K H p ys ∧ Q (.ref p) H))) (fun _ H k => k [.ref D] H) [] H' Q := by
  obtain ⟨Gi, ys, e1, nf', bs, gD, e2, kp, hl, dv⟩ := c.ex
  rw [List.take_length] at dv
  have hb : ∀ b, H b ≠ none → b ≠ D := fun b z e => z (e ▸ hD)
  refine ⟨D, ys, rfl, .inl ⟨SqL.of hl, fun l hn => ?_⟩⟩
  have hl' : ∀ b, H b ≠ none → b ≠ l := fun b z e => by
    cases y : H b with
    | none => exact z y
    | some o =>
      have w := kp b o (hb b z) y
      rw [e, hn] at w
      cases w
  have gl : Gi l = none := e2.free hn
  refine q (.ref l) (upd Gi l (.tup ys)) _ (e1.trans (same_new gl)) (noFrz_upd nf' fun _ _ z => nomatch z) (fun b z g => by rw [upd_ne (hl' b z)]; exact bs b z g) (fun b o e => ?_) (fun b o e => ?_) (.tup (.inl (.inl upd_same)) (Dvs.mono (same_new gl) dv))
  · by_cases z : b = l
    · rw [z, upd_same] at e ⊢
      exact e
    · rw [upd_ne z] at e ⊢
      exact e2 _ _ e
  · have z : H b ≠ none := by rw [e]; exact fun z => nomatch z
    rw [upd_ne (hl' b z)]
    exact kp b o (hb b z) e
section
variable {P : Program} {w : World} {K : PySem.W.Frag} {mg : Str → Option Value} {base : Heap}
theorem scCopied : FnScope ["value", "part", "key"] ["value"] (defScope sCopied) := ⟨rfl, rfl, rfl, by decide +kernel, rfl, by decide +kernel, by decide +kernel⟩
theorem ok_copied {f : Addr} {fd : FuncData} (F : Fun K "copied" "copied" sCopied f fd) (T : B0 mg) (hm : mg "copied" = some (.ref f)) (b : Binds K fd ["value"] []) : ∀ n, FnOk P w K mg base CX0 (n + 1) f fd ["value"] (spCopied n K) := by
  intro n
  induction n with
  | zero =>
    refine F.ok scCopied (fun vs H Q E h => ?_) (fun cdv A outer s H vs Q E hr h => ?_)
    · obtain ⟨v, d, G, rfl, _⟩ := h
      rfl
    · obtain ⟨v, d, G, rfl, hc, s1, nf, hd, q⟩ := h
      have tst : ∀ c : String, c ∈ clsL → isT c d = true → c = "int" ∨ c = "bool" ∨ c = "str" := fun c hc' e => by
        simp only [clsL, List.mem_cons, List.not_mem_nil, or_false] at hc'
        rcases hc' with rfl | rfl | rfl | rfl | rfl | rfl <;> cases d <;> simp_all [isT, Cp]
      refine ⟨_, pss_cons (ps_if (pt_val (pe_callB (call_isD (c := "list")) (by rfl) T.isi (by decide +kernel) (pa_cons (pv 0) (pa_cons (pe_bltn (v := .ty "list") (by rfl) T.list (by decide +kernel) rfl) pa_nil)))) (pss_one ps_never) pss_nil)
        (pss_cons (ps_if (pt_val (pe_callB (call_isD (c := "tuple")) (by rfl) T.isi (by decide +kernel) (pa_cons (pv 0) (pa_cons (pe_bltn (v := .ty "tuple") (by rfl) T.tuple (by decide +kernel) rfl) pa_nil)))) (pss_one ps_never) pss_nil)
        (pss_cons (ps_if (pt_val (pe_callB (call_isD (c := "dict")) (by rfl) T.isi (by decide +kernel) (pa_cons (pv 0) (pa_cons (pe_bltn (v := .ty "dict") (by rfl) T.dict (by decide +kernel) rfl) pa_nil)))) (pss_one ps_never) pss_nil)
        (pss_one (ps_ret (pv 0))))), ?_⟩
      have no : ∀ c : String, c ∈ ["list", "tuple", "dict"] → isT c d = false := fun c hc' => by
        simp only [List.mem_cons, List.not_mem_nil, or_false] at hc'
        rcases hc' with rfl | rfl | rfl <;> cases d <;> simp_all [isT, Cp]
      refine ⟨v, rfl, v, d, rfl, Dv.mono s1 hd, _, rfl, ?_⟩
      rw [no "list" (by simp)]
      refine iteF ⟨v, rfl, v, d, rfl, Dv.mono s1 hd, _, rfl, ?_⟩
      rw [no "tuple" (by simp)]
      refine iteF ⟨v, rfl, v, d, rfl, Dv.mono s1 hd, _, rfl, ?_⟩
      rw [no "dict" (by simp)]
      exact iteF ⟨v, rfl, q v G H (Same.refl G) nf (fun _ _ z => z) s1 (Same.refl H) hd⟩
  | succ n ih =>
    refine F.ok scCopied (fun vs H Q E h => ?_) (fun cdv A outer s H vs Q E hr h => ?_)
    · obtain ⟨v, d, G, rfl, _⟩ := h
      rfl
    · obtain ⟨v, d, G, rfl, hc, s1, nf, hd, q⟩ := h
      have hu := hu_of hr
      refine ⟨_, pss_cons (ps_if (pt_val (pe_callB (call_isD (c := "list")) (by rfl) T.isi (by decide +kernel) (pa_cons (pv 0) (pa_cons (pe_bltn (v := .ty "list") (by rfl) T.list (by decide +kernel) rfl) pa_nil))))
          (pss_one (ps_ret (pe_lc (own := [("part", 1)]) (g := gName 1) (tt := tYes) (by rfl) scCopied.nd (pi_list (pv 0)) (blkOk_by (own := [("part", 1)]) (N := ["value", "part", "key"]) (sc := defScope sCopied) (by decide +kernel))
            (fun _ _ _ _ _ => pg_name (i := 1) scCopied.nd rfl (Or.inl rfl)) (fun _ _ _ _ _ => pts_nil) (fun _ _ _ _ _ => pe_call ih hr (by rfl) hm F.kp b .nil pass0 (pa_cons (pv 1) pa_nil))))) pss_nil)
        (pss_cons (ps_if (pt_val (pe_callB (call_isD (c := "tuple")) (by rfl) T.isi (by decide +kernel) (pa_cons (pv 0) (pa_cons (pe_bltn (v := .ty "tuple") (by rfl) T.tuple (by decide +kernel) rfl) pa_nil))))
          (pss_one (ps_ret (pe_callTy call_tuple_of (by rfl) T.tuple (by decide +kernel) (pa_cons (pe_lc (own := [("part", 1)]) (g := gName 1) (tt := tYes) (by rfl) scCopied.nd (pi_tup (pv 0)) (blkOk_by (own := [("part", 1)]) (N := ["value", "part", "key"]) (sc := defScope sCopied) (by decide +kernel))
            (fun _ _ _ _ _ => pg_name (i := 1) scCopied.nd rfl (Or.inl rfl)) (fun _ _ _ _ _ => pts_nil) (fun _ _ _ _ _ => pe_call ih hr (by rfl) hm F.kp b .nil pass0 (pa_cons (pv 1) pa_nil))) pa_nil)))) pss_nil)
        (pss_cons (ps_if (pt_val (pe_callB (call_isD (c := "dict")) (by rfl) T.isi (by decide +kernel) (pa_cons (pv 0) (pa_cons (pe_bltn (v := .ty "dict") (by rfl) T.dict (by decide +kernel) rfl) pa_nil))))
          (pss_one (ps_ret (pe_lock (pe_dc (own := [("key", 2)]) (g := gName 2) (tt := tYes) (by rfl) scCopied.nd (pi_keys (pv 0)) (blkOk_by (own := [("key", 2)]) (N := ["value", "part", "key"]) (sc := defScope sCopied) (by decide +kernel))
            (fun _ _ _ _ _ => pg_name (i := 2) scCopied.nd rfl (Or.inl rfl)) (fun _ _ _ _ _ => pts_nil) (fun _ _ _ _ _ => pv 2) (fun _ _ _ _ _ => pe_call ih hr (by rfl) hm F.kp b .nil pass0 (pa_cons (pe_dget hu (pv 0) (pv 2) (fun _ _ => rfl)) pa_nil)))))) pss_nil)
        (pss_one (ps_ret (pv 0))))), ?_⟩
      have hd' := Dv.mono s1 hd
      refine ⟨v, rfl, v, d, rfl, hd', _, rfl, ?_⟩
      cases d with
      | list ds =>
        refine iteT ?_
        obtain ⟨hz, hcs⟩ := hc
        cases hd with
        | @lst a xs _ hs ha =>
          refine ⟨_, rfl, a, rfl, ⟨xs, s1.seq hs⟩, fun D hD => lc_list (K := K) (a := a) (xs := xs) (CpAt K H G D ds) (CpAt.start s1 nf hD) (fun i H' _ c => ?_) (fun i x H' hi c => ⟨rfl, yes_go ?_⟩) (fun H' c => ?_)⟩
          · obtain ⟨Gi, ys, e1, _, _, _, e2, _⟩ := c.ex
            exact (e1.trans e2).seq hs
          · obtain ⟨d, hdi, hv⟩ := Dvs.get ha hi
            refine ⟨x, rfl, c.step hD hdi hv (hcs d (List.mem_of_getElem? hdi)) hz fun v' H'' ys e1 e2 c' => ⟨ys, e1, e2, c'⟩⟩
          · rw [Dvs.len ha] at c
            exact CpAt.list hD c q
      | tuple ds =>
        refine iteF ⟨v, rfl, v, _, rfl, hd', _, rfl, ?_⟩
        refine iteT ?_
        obtain ⟨hz, hcs⟩ := hc
        cases hd with
        | @tup a xs _ hs ha =>
          refine ⟨_, rfl, a, rfl, ⟨xs, sqT_mono s1 hs⟩, fun D hD => lc_tup (K := K) (a := a) (xs := xs) (CpAt K H G D ds) (CpAt.start s1 nf hD) (fun i H' _ c => ?_) (fun i x H' hi c => ⟨rfl, yes_go ?_⟩) (fun H' c => ?_)⟩
          · obtain ⟨Gi, ys, e1, _, _, _, e2, _⟩ := c.ex
            exact sqT_mono (e1.trans e2) hs
          · obtain ⟨d, hdi, hv⟩ := Dvs.get ha hi
            refine ⟨x, rfl, c.step hD hdi hv (hcs d (List.mem_of_getElem? hdi)) hz fun v' H'' ys e1 e2 c' => ⟨ys, e1, e2, c'⟩⟩
          · rw [Dvs.len ha] at c
            exact CpAt.tuple hD c q
      | dict ps =>
        refine iteF ⟨v, rfl, v, _, rfl, hd', _, rfl, ?_⟩
        refine iteF ⟨v, rfl, v, _, rfl, hd', _, rfl, ?_⟩
        refine iteT ?_
        obtain rfl : ps = [(.int 0, .int 1)] := hc
        cases hd with
        | @dic a kvs _ hs ha =>
          obtain rfl := dks_a ha
          have hH : H a = some (.dK kvA) := by
            rcases hs with z | ⟨o, z⟩
            · exact s1 _ _ z
            · exact absurd z (nf _ _ _)
          refine ⟨a, _, hH, True.intro, fun od => ⟨_, rfl, a, od, rfl, .inl ⟨_, upd_same, fun D hD => ?_⟩⟩⟩
          have key : ∀ H1, H1 D = some (.dK kvA) → (∀ b o, b ≠ D → b ≠ a → H b = some o → H1 b = some o) → H1 a = some (.frz od (.dK kvA)) → Q (.ref D) (upd H1 a (.dK kvA)) := fun H1 e1 e2 e3 => by
            have hDa : D ≠ a := fun z => by
              rw [z, upd_same] at hD
              cases hD
            have hb : ∀ b, H b ≠ none → b ≠ D := fun b z e => by
              rw [← e, upd_ne (e ▸ hDa)] at hD
              exact z hD
            have gD : G D = none := by
              cases y : G D with
              | none => rfl
              | some o => exact absurd rfl (hb D (by rw [s1 _ _ y]; exact fun z => nomatch z))
            have s3 : Same H (upd H1 a (.dK kvA)) := fun b o e => by
              by_cases z : b = a
              · rw [z, hH] at e
                rw [z, upd_same]
                exact e
              · rw [upd_ne z]
                exact e2 b o (hb b (by rw [e]; exact fun z => nomatch z)) z e
            refine q (.ref D) (upd G D (.dK kvA)) _ (same_new gD) (noFrz_upd nf fun _ _ z => nomatch z) (fun b z g => by rw [upd_ne (hb b z)]; exact g) (fun b o e => ?_) s3 (.dic (.inl upd_same) (.cons (.int 1) .nil))
            by_cases z : b = D
            · rw [z, upd_same] at e
              rw [z, upd_ne hDa, e1]
              exact e
            · rw [upd_ne z] at e
              exact s3 _ _ (s1 _ _ e)
          have hDa : D ≠ a := fun z => by
            rw [z, upd_same] at hD
            cases hD
          refine dc_it (walk_keys (d := a) (o := od) (kvs := kvA)) (fun i H1 => (∀ b o, b ≠ D → b ≠ a → H b = some o → H1 b = some o) ∧ H1 a = some (.frz od (.dK kvA)) ∧ H1 D = some (.dK (kvA.take i))) ?_ (fun i H1 _ c => c.2.1) ?_ ?_
          · exact ⟨fun b o h1 h2 e => by rw [upd_ne h1, upd_ne h2]; exact e, by rw [upd_ne (Ne.symm hDa), upd_same], upd_same⟩
          · rintro i x H1 H2 hi ⟨c1, c2, c3⟩ ⟨rfl, k, vv, hk, rfl⟩
            have i0 : i = 0 := by
              have : i < 1 := hi
              omega
            subst i0
            cases hk
            refine ⟨rfl, yes_go ?_⟩
            refine ⟨_, rfl, .ref a, rfl, _, rfl, a, _, rfl, .inl ⟨kvA, (Sum.inl (0 : Int) : Key), .inr ⟨od, c2⟩, rfl, rfl⟩, ?_⟩
            refine ⟨.int 1, .int 1, fun _ => none, rfl, by cases n <;> exact True.intro, (fun _ _ z => nomatch z), (fun _ _ _ z => nomatch z), .int 1, fun v' G' H' e1 e2 e3 e4 e5 e6 => ?_⟩
            cases e6
            refine ⟨[], (Sum.inl (0 : Int) : Key), rfl, e5 _ _ c3, by decide, fun b o h1 h2 e => ?_, ?_, ?_⟩
            · rw [upd_ne h1]
              exact e5 _ _ (c1 b o h1 h2 e)
            · rw [upd_ne (Ne.symm hDa)]
              exact e5 _ _ c2
            · rw [upd_same]
              rfl
          · rintro H1 ⟨c1, c2, c3⟩
            exact ⟨c2, key H1 c3 c1 c2⟩
      | none => exact iteF ⟨v, rfl, v, _, rfl, hd', _, rfl, iteF ⟨v, rfl, v, _, rfl, hd', _, rfl, iteF ⟨v, rfl, q v G H (Same.refl G) nf (fun _ _ z => z) s1 (Same.refl H) hd⟩⟩⟩
      | bool _ => exact iteF ⟨v, rfl, v, _, rfl, hd', _, rfl, iteF ⟨v, rfl, v, _, rfl, hd', _, rfl, iteF ⟨v, rfl, q v G H (Same.refl G) nf (fun _ _ z => z) s1 (Same.refl H) hd⟩⟩⟩
      | int _ => exact iteF ⟨v, rfl, v, _, rfl, hd', _, rfl, iteF ⟨v, rfl, v, _, rfl, hd', _, rfl, iteF ⟨v, rfl, q v G H (Same.refl G) nf (fun _ _ z => z) s1 (Same.refl H) hd⟩⟩⟩
      | str _ => exact iteF ⟨v, rfl, v, _, rfl, hd', _, rfl, iteF ⟨v, rfl, v, _, rfl, hd', _, rfl, iteF ⟨v, rfl, q v G H (Same.refl G) nf (fun _ _ z => z) s1 (Same.refl H) hd⟩⟩⟩
end
end K37
end

section
set_option Elab.async false
set_option linter.all false
set_option maxRecDepth 100000
set_option maxHeartbeats 4000000
/-! the errors' __init__ -/
namespace K37
open PySem L2 KZ
/-- what the written part says of an error class: its name, its __init__, its fields -/
structure ErrC (K : PySem.W.Frag) (mg : Str → Option Value) (nm : Str) (C fI : Addr) (fs : List Str) : Prop where
  ox : OexC K C
  ex : ExcT K C
  ini : PySem.W.findIn K (.ref C) "__init__" = some (some (.ref fI))
  ti : PySem.W.typeIn K (.ref fI) = some (.type "function")
  no : ∀ f ∈ fs, PySem.W.findIn K (.ref C) f = some none
  gl : mg nm = some (.ref C)
/-- self.f = copied(x) -/
def spE1 (K : PySem.W.Frag) (C : Addr) (f : Str) : Sp := fun vs H Q _ => ∃ a v d G, vs = [.ref a, v] ∧ Cp 3 d ∧ Same G H ∧ NoFrz G ∧ G a = none ∧ Dv K G v d ∧ H a = some (exo a C none) ∧
  ∀ v' G' dx H', Same G G' → NoFrz G' → Beside H G G' → G' a = none → G' dx = none → H dx = none → dx ≠ a → Same G' H' → (∀ b o, b ≠ a → H b = some o → H' b = some o) → H' a = some (exo a C (some dx)) → H' dx = some (exd dx [(f, v')]) → Dv K G' v' d → Q .non H'
/-- self.f = copied(x); self.g = copied(y) -/
def spE2 (K : PySem.W.Frag) (C : Addr) (f g : Str) : Sp := fun vs H Q _ => ∃ a v u d e G, vs = [.ref a, v, u] ∧ Cp 3 d ∧ Cp 3 e ∧ Same G H ∧ NoFrz G ∧ G a = none ∧ Dv K G v d ∧ Dv K G u e ∧ H a = some (exo a C none) ∧
  ∀ v' u' G' dx H', Same G G' → NoFrz G' → Beside H G G' → G' a = none → G' dx = none → H dx = none → dx ≠ a → Same G' H' → (∀ b o, b ≠ a → H b = some o → H' b = some o) → H' a = some (exo a C (some dx)) → H' dx = some (exd dx [(g, u'), (f, v')]) → Dv K G' v' d → Dv K G' u' e → Q .non H'
section
variable {P : Program} {w : World} {K : PySem.W.Frag} {mg : Str → Option Value} {base : Heap} {fC : Addr} {dC : FuncData}
theorem ok_init1 {C f : Addr} {fd : FuncData} {q x fld : Str} {st : Stmt} {p1 p2 p3 p4 p5 p6 : Pos} (hb : defBody st = [.Assign [.Attribute (.Name "self" p1) fld p2] (.Call (.Name "copied" p3) [.Name x p4] [] p5) p6])
    (S : FnScope ["self", x] ["self", x] (defScope st)) (hs : (defScope st).names.lookup ("self" : Str) = some .local) (hx : (defScope st).names.lookup x = some .local) (hc : (defScope st).names.lookup ("copied" : Str) = some .globalImplicit)
    (hd : (x == ("__debug__" : Str)) = false) (hcd : (x == ("__classdict__" : Str)) = false) (F : Fun K "__init__" q st f fd) (ox : OexC K C) (no : PySem.W.findIn K (.ref C) fld = some none)
    (T : B0 mg) (gC : mg "copied" = some (.ref fC)) (FC : Fun K "copied" "copied" sCopied fC dC) (bC : Binds K dC ["value"] []) : FnOk P w K mg base CX0 5 f fd ["self", x] (spE1 K C fld) := by
  have GC : FnOk P w K mg base CX0 4 fC dC ["value"] (spCopied 3 K) := ok_copied FC T gC bC 3
  refine F.ok S (fun vs H Q E h => ?_) (fun cdv A outer s H vs Q E hr h => ?_)
  · obtain ⟨a, v, d, G, rfl, _⟩ := h
    rfl
  · obtain ⟨a, v, d, G, rfl, hcp, s1, nf, ga, hv, ha, q⟩ := h
    rw [hb]
    refine ⟨_, pss_one (ps_ost (pe_var (i := 0) rfl (.inl hs)) (pe_call GC hr hc gC FC.kp bC .nil pass0 (pa_cons (pe_var (i := 1) rfl (.inl hx) hd hcd) pa_nil))), ?_⟩
    refine ⟨v, rfl, v, d, G, rfl, hcp, s1, nf, hv, fun v' G' H' e1 e2 e3 e4 e5 e6 => ?_⟩
    have ga' : G' a = none := e3 a (by rw [ha]; exact fun z => nomatch z) ga
    refine ⟨_, rfl, a, C, rfl, ox, no, .inl ⟨e5 _ _ ha, fun dx hdx ne => ?_⟩⟩
    have gd : G' dx = none := e4.free hdx
    refine q v' G' dx _ e1 e2 e3 ga' gd (e5.free hdx) ne (fun b o e => ?_) (fun b o hb e => ?_) upd_same (by rw [upd_ne ne, upd_same]) e6
    · rw [upd_ne (ne_of_none e ga'), upd_ne (ne_of_none e gd)]
      exact e4 _ _ e
    · rw [upd_ne hb, upd_ne (ne_of_none (e5 _ _ e) hdx)]
      exact e5 _ _ e
theorem ok_init2 {C f : Addr} {fd : FuncData} {q x y fld gld : Str} {st : Stmt} {p1 p2 p3 p4 p5 p6 q1 q2 q3 q4 q5 q6 : Pos}
    (hb : defBody st = [.Assign [.Attribute (.Name "self" p1) fld p2] (.Call (.Name "copied" p3) [.Name x p4] [] p5) p6, .Assign [.Attribute (.Name "self" q1) gld q2] (.Call (.Name "copied" q3) [.Name y q4] [] q5) q6])
    (S : FnScope ["self", x, y] ["self", x, y] (defScope st)) (hs : (defScope st).names.lookup ("self" : Str) = some .local) (hx : (defScope st).names.lookup x = some .local) (hy : (defScope st).names.lookup y = some .local) (hc : (defScope st).names.lookup ("copied" : Str) = some .globalImplicit)
    (hd : (x == ("__debug__" : Str)) = false) (hcd : (x == ("__classdict__" : Str)) = false) (hd2 : (y == ("__debug__" : Str)) = false) (hcd2 : (y == ("__classdict__" : Str)) = false) (F : Fun K "__init__" q st f fd) (ox : OexC K C)
    (no : PySem.W.findIn K (.ref C) fld = some none) (no2 : PySem.W.findIn K (.ref C) gld = some none)
    (T : B0 mg) (gC : mg "copied" = some (.ref fC)) (FC : Fun K "copied" "copied" sCopied fC dC) (bC : Binds K dC ["value"] []) : FnOk P w K mg base CX0 5 f fd ["self", x, y] (spE2 K C fld gld) := by
  have GC : FnOk P w K mg base CX0 4 fC dC ["value"] (spCopied 3 K) := ok_copied FC T gC bC 3
  refine F.ok S (fun vs H Q E h => ?_) (fun cdv A outer s H vs Q E hr h => ?_)
  · obtain ⟨a, v, u, d, e, G, rfl, _⟩ := h
    rfl
  · obtain ⟨a, v, u, d, e, G, rfl, hcp, hcp2, s1, nf, ga, hv, hu, ha, q⟩ := h
    rw [hb]
    refine ⟨_, pss_cons (ps_ost (pe_var (i := 0) rfl (.inl hs)) (pe_call GC hr hc gC FC.kp bC .nil pass0 (pa_cons (pe_var (i := 1) rfl (.inl hx) hd hcd) pa_nil)))
      (pss_one (ps_ost (pe_var (i := 0) rfl (.inl hs)) (pe_call GC hr hc gC FC.kp bC .nil pass0 (pa_cons (pe_var (i := 2) rfl (.inl hy) hd2 hcd2) pa_nil)))), ?_⟩
    refine ⟨v, rfl, v, d, G, rfl, hcp, s1, nf, hv, fun v' G' H' e1 e2 e3 e4 e5 e6 => ?_⟩
    have ga' : G' a = none := e3 a (by rw [ha]; exact fun z => nomatch z) ga
    refine ⟨_, rfl, a, C, rfl, ox, no, .inl ⟨e5 _ _ ha, fun dx hdx ne => ?_⟩⟩
    have gd : G' dx = none := e4.free hdx
    have s2 : Same G' (upd (upd H' dx (exd dx [(fld, v')])) a (exo a C (some dx))) := fun b o z => by
      rw [upd_ne (ne_of_none z ga'), upd_ne (ne_of_none z gd)]
      exact e4 _ _ z
    refine ⟨u, rfl, u, e, G', rfl, hcp2, s2, e2, Dv.mono e1 hu, fun u' G2 H2 f1 f2 f3 f4 f5 f6 => ?_⟩
    have nn : ∀ b o, H b = some o → (upd (upd H' dx (exd dx [(fld, v')])) a (exo a C (some dx))) b ≠ none := fun b o z => by
      by_cases hba : b = a
      · rw [hba, upd_same]
        exact fun z => nomatch z
      · rw [upd_ne hba, upd_ne (ne_of_none (e5 _ _ z) hdx), e5 _ _ z]
        exact fun z => nomatch z
    have ga2 : G2 a = none := f3 a (by rw [upd_same]; exact fun z => nomatch z) ga'
    have gd2 : G2 dx = none := f3 dx (by rw [upd_ne ne, upd_same]; exact fun z => nomatch z) gd
    have ha2 : H2 a = some (exo a C (some dx)) := f5 _ _ upd_same
    have hd2 : H2 dx = some (exd dx [(fld, v')]) := f5 _ _ (by rw [upd_ne ne, upd_same])
    refine ⟨_, rfl, a, C, rfl, ox, no2, .inr ⟨dx, _, ha2, hd2, (show 1 ≤ 900 by decide), ?_⟩⟩
    refine q v' u' G2 dx _ (e1.trans f1) f2 (fun b z g => ?_) ga2 gd2 (e5.free hdx) ne (fun b o z => ?_) (fun b o hb z => ?_) (by rw [upd_ne (Ne.symm ne)]; exact ha2) upd_same (Dv.mono f1 e6) f6
    · cases y : H b with
      | none => exact absurd y z
      | some o => exact f3 b (nn b o y) (e3 b z g)
    · rw [upd_ne (ne_of_none z gd2)]
      exact f4 _ _ z
    · have hbd : b ≠ dx := ne_of_none (e5 _ _ z) hdx
      rw [upd_ne hbd]
      exact f5 _ _ (by rw [upd_ne hb, upd_ne hbd]; exact e5 _ _ z)
end
end K37
end

section
set_option Elab.async false
set_option linter.all false
set_option maxRecDepth 100000
set_option maxHeartbeats 4000000
/-! errors made of data, as one rule each -/
namespace K37
open PySem L2 KZ
def tUp (ta : TA) : TA := fun σ H Q => ∃ R : List V → Hp → Prop, ta σ H R ∧ ∀ vs H1, R vs H1 → Q vs H1
theorem pa_up {X : Cx} {es : List Expr} {ta : TA} (h : PA X es ta) : PA X es (tUp ta) :=
  ⟨fun pos pins s σ H Q I ⟨R, q, m⟩ => wpAny_mono (h.run pos pins s σ H R I q) (fun us s1 ⟨vs, H1, I1, r, z⟩ => ⟨vs, H1, I1, r, m _ _ z⟩) fun _ _ z => z⟩
theorem pk_up {X : Cx} {es : List Keyword} {ta : TA} (h : PK X es ta) : PK X es (tUp ta) :=
  ⟨fun pos pins s σ H Q I ⟨R, q, m⟩ => wpAny_mono (h.run pos pins s σ H R I q) (fun us s1 ⟨vs, H1, I1, r, z⟩ => ⟨vs, H1, I1, r, m _ _ z⟩) fun _ _ z => z⟩
theorem pe_conv {X : Cx} {e : Expr} {t u : TE} (h : PE X e t) (c : ∀ σ H Q, u σ H Q → t σ H Q) : PE X e u := ⟨fun pins s σ H Q I z => h.run pins s σ H Q I (c _ _ _ z)⟩
/-- at a: an error of the class C, its fields hold the data -/
def EAt (K : PySem.W.Frag) (H : Hp) (a C : Addr) (fds : List (Str × PyData)) : Prop :=
  ∃ dd fs, H a = some (EXO C a (some dd)) ∧ XD H dd fs ∧ ∀ p ∈ fds, ∃ v, fs.lookup p.1 = some v ∧ Dv K H v p.2
theorem XD.mono {H H' : Hp} {dd : Addr} {fs : List (Str × V)} (s : Same H H') (h : XD H dd fs) : XD H' dd fs := h.imp (s _ _) (s _ _)
theorem EAt.mono {K : PySem.W.Frag} {H H' : Hp} {a C : Addr} {fds : List (Str × PyData)} (s : Same H H') (h : EAt K H a C fds) : EAt K H' a C fds := by
  obtain ⟨dd, fs, e1, e2, e3⟩ := h
  exact ⟨dd, fs, s _ _ e1, XD.mono s e2, fun p hp => let ⟨v, l, d⟩ := e3 p hp; ⟨v, l, Dv.mono s d⟩⟩
/-- at a: an error of the class C -/
def IsErr (H : Hp) (a C : Addr) : Prop := ∃ d, H a = some (EXO C a d) ∧ ∀ dd, d = some dd → ∃ fs, XD H dd fs
theorem IsErr.mono {H H' : Hp} {a C : Addr} (s : Same H H') (h : IsErr H a C) : IsErr H' a C := by
  obtain ⟨d, e1, e2⟩ := h
  exact ⟨d, s _ _ e1, fun dd e => let ⟨fs, z⟩ := e2 dd e; ⟨fs, XD.mono s z⟩⟩
theorem EAt.is {K : PySem.W.Frag} {H : Hp} {a C : Addr} {fds : List (Str × PyData)} (h : EAt K H a C fds) : IsErr H a C := by
  obtain ⟨dd, fs, e1, e2, _⟩ := h
  exact ⟨some dd, e1, fun _ z => by cases z; exact ⟨fs, e2⟩⟩
theorem ef_go {K : PySem.W.Frag} {H : Hp} {a C : Addr} {fds : List (Str × PyData)} {n : Str} {d : PyData} {Q : V → Prop} (T : ExcT K C) (no : PySem.W.findIn K (.ref C) n = some none) (h : EAt K H a C fds) (hm : (n, d) ∈ fds) (q : ∀ v, Dv K H v d → Q v) :
    ∃ (a' C' dd : Addr) (fs : List (Str × V)) (v : V), V.ref a = .ref a' ∧ ExcT K C' ∧ PySem.W.findIn K (.ref C') n = some none ∧ H a' = some (EXO C' a' (some dd)) ∧ XD H dd fs ∧ fs.lookup n = some v ∧ Q v := by
  obtain ⟨dd, fs, e1, e2, e3⟩ := h
  obtain ⟨v, l, z⟩ := e3 _ hm
  exact ⟨a, C, dd, fs, v, rfl, T, no, e1, e2, l, q v z⟩
structure Mk1 (P : Program) (w : World) (K : PySem.W.Frag) (mg : Str → Option Value) (base : Heap) (nm : Str) (C : Addr) (x fld : Str) : Prop where
  has : ∃ fI dI, ErrC K mg nm C fI [fld] ∧ FnOk P w K mg base CX0 5 fI dI ["self", x] (spE1 K C fld) ∧ Binds K dI ["self", x] [] ∧ KBinds K dI ["self", x] [x] (fun us ws => us ++ ws.take 1) fun vs zs => vs ++ zs.take 1
structure Mk2 (P : Program) (w : World) (K : PySem.W.Frag) (mg : Str → Option Value) (base : Heap) (nm : Str) (C : Addr) (x y fld gld : Str) : Prop where
  has : ∃ fI dI, ErrC K mg nm C fI [fld, gld] ∧ FnOk P w K mg base CX0 5 fI dI ["self", x, y] (spE2 K C fld gld) ∧ Binds K dI ["self", x, y] [] ∧ KBinds K dI ["self", x, y] [y, x] (fun us ws => us ++ (ws.take 2).reverse) fun vs zs => vs ++ (zs.take 2).reverse
theorem Mk1.facts {P : Program} {w : World} {K : PySem.W.Frag} {mg : Str → Option Value} {base : Heap} {nm x fld : Str} {C : Addr} (M : Mk1 P w K mg base nm C x fld) : ExcT K C ∧ PySem.W.findIn K (.ref C) fld = some none :=
  let ⟨_, _, E, _⟩ := M.has
  ⟨E.ex, E.no _ List.mem_cons_self⟩
theorem Mk2.facts {P : Program} {w : World} {K : PySem.W.Frag} {mg : Str → Option Value} {base : Heap} {nm x y fld gld : Str} {C : Addr} (M : Mk2 P w K mg base nm C x y fld gld) : ExcT K C ∧ PySem.W.findIn K (.ref C) fld = some none ∧ PySem.W.findIn K (.ref C) gld = some none :=
  let ⟨_, _, E, _⟩ := M.has
  ⟨E.ex, E.no _ List.mem_cons_self, E.no _ (List.mem_cons_of_mem _ List.mem_cons_self)⟩
section
variable {K : PySem.W.Frag}
theorem e1_go {C a : Addr} {fld : Str} {v : V} {d : PyData} {G H : Hp} {Q : VK} (cp : Cp 3 d) (s : Same G H) (nf : NoFrz G) (hv : Dv K G v d) (ha : H a = none) (k : ∀ H', Same H H' → EAt K H' a C [(fld, d)] → Q (.ref a) H') :
    spE1 K C fld [.ref a, v] (upd H a (exo a C none)) (fun v H2 => v = .non ∧ ∃ d, H2 a = some (exo a C (some d)) ∧ Q (.ref a) (upd H2 a (EXO C a (some d)))) (fun _ _ _ => False) := by
  refine ⟨a, v, d, G, rfl, cp, s.trans (same_new ha), nf, s.free ha, hv, upd_same, fun v' G' dx H' s1 nf' bs ga gd hdx ne s' kp ea ed dv' => ⟨rfl, dx, ea, k _ (fun b o e => ?_) ⟨dx, [(fld, v')], upd_same, .inl (by rw [upd_ne ne]; exact ed), fun p hp => ?_⟩⟩⟩
  · have hb : b ≠ a := ne_of_none e ha
    rw [upd_ne hb]
    exact kp _ _ hb (by rw [upd_ne hb]; exact e)
  · rw [List.mem_singleton] at hp
    subst hp
    refine ⟨v', by simp, Dv.mono (fun b o e => ?_) dv'⟩
    rw [upd_ne (ne_of_none e ga)]
    exact s' _ _ e
theorem e2_go {C a : Addr} {fld gld : Str} {v u : V} {d e : PyData} {G H : Hp} {Q : VK} (hfg : gld ≠ fld) (cp : Cp 3 d) (cp2 : Cp 3 e) (s : Same G H) (nf : NoFrz G) (hv : Dv K G v d) (hu : Dv K G u e) (ha : H a = none) (k : ∀ H', Same H H' → EAt K H' a C [(fld, d), (gld, e)] → Q (.ref a) H') :
    spE2 K C fld gld [.ref a, v, u] (upd H a (exo a C none)) (fun v H2 => v = .non ∧ ∃ d, H2 a = some (exo a C (some d)) ∧ Q (.ref a) (upd H2 a (EXO C a (some d)))) (fun _ _ _ => False) := by
  refine ⟨a, v, u, d, e, G, rfl, cp, cp2, s.trans (same_new ha), nf, s.free ha, hv, hu, upd_same, fun v' u' G' dx H' s1 nf' bs ga gd hdx ne s' kp ea ed dv' du' => ⟨rfl, dx, ea, k _ (fun b o e => ?_) ⟨dx, [(gld, u'), (fld, v')], upd_same, .inl (by rw [upd_ne ne]; exact ed), fun p hp => ?_⟩⟩⟩
  · have hb : b ≠ a := ne_of_none e ha
    rw [upd_ne hb]
    exact kp _ _ hb (by rw [upd_ne hb]; exact e)
  · have m : Same G' (upd H' a (EXO C a (some dx))) := fun b o e => by
      rw [upd_ne (ne_of_none e ga)]
      exact s' _ _ e
    rcases List.mem_cons.mp hp with z | z
    · subst z
      refine ⟨v', ?_, Dv.mono m dv'⟩
      rw [List.lookup_cons]
      rw [show (fld == gld) = false from by simpa using fun z => hfg z.symm]
      simp
    · rw [List.mem_singleton] at z
      subst z
      exact ⟨u', by simp, Dv.mono m du'⟩
end
def tMk1 (K : PySem.W.Frag) (C : Addr) (fld : Str) (ta : TA) : TE := fun σ H Q => ta σ H fun vs H1 => ∃ v d G, vs = [v] ∧ Cp 3 d ∧ Same G H1 ∧ NoFrz G ∧ Dv K G v d ∧ ∀ a H', H1 a = none → Same H1 H' → EAt K H' a C [(fld, d)] → Q (.ref a) H'
def tMk2 (K : PySem.W.Frag) (C : Addr) (fld gld : Str) (ta : TA) : TE := fun σ H Q => ta σ H fun vs H1 => ∃ v u d e G, vs = [v, u] ∧ Cp 3 d ∧ Cp 3 e ∧ Same G H1 ∧ NoFrz G ∧ Dv K G v d ∧ Dv K G u e ∧ ∀ a H', H1 a = none → Same H1 H' → EAt K H' a C [(fld, d), (gld, e)] → Q (.ref a) H'
/-- the keywords the other way round -/
def tMkK2 (K : PySem.W.Frag) (C : Addr) (fld gld : Str) (ta : TA) : TE := fun σ H Q => ta σ H fun vs H1 => ∃ v u d e G, vs = [u, v] ∧ Cp 3 d ∧ Cp 3 e ∧ Same G H1 ∧ NoFrz G ∧ Dv K G v d ∧ Dv K G u e ∧ ∀ a H', H1 a = none → Same H1 H' → EAt K H' a C [(fld, d), (gld, e)] → Q (.ref a) H'
section
variable {X : Cx} {C : Addr} {nm x y fld gld : Str} {e e2 : Expr} {es : List Expr} {kws : List Keyword} {ta : TA} {p pos : Pos}
theorem pe_efK {te : TE} {n : Str} (K : PySem.W.Frag) (he : PE X e te) (hK : X.K = K := by rfl) (hb : attributeBase e n X.env (eval e X.env) = eval e X.env := by rfl) : PE X (.Attribute e n pos) (tEf K n te) := by
  subst hK
  exact pe_ef he hb
theorem pe_mk1 (M : Mk1 X.prog X.w X.K X.mg X.base nm C x fld) (hr : Room 6 X.A) (hg : Gl X nm) (ha : PA X [e] ta) (hdb : (nm == ("__debug__" : Str)) = false := by decide) (he : starEach [e] X.env = (false, eval e X.env) :: starEach [] X.env := by rfl) :
    PE X (.Call (.Name nm p) [e] [] pos) (tMk1 X.K C fld ta) := by
  obtain ⟨fI, dI, E, F, b, _⟩ := M.has
  refine pe_conv (pe_oex E.ox E.ini E.ti F hr b .nil pass0 hg E.gl (pa_up ha) hdb he) fun σ H Q h => ⟨_, h, ?_⟩
  rintro vs H1 ⟨v, d, G, rfl, cp, s, nf, hv, k⟩
  exact ⟨(show 1 ≤ 1000 by decide), fun a ha => e1_go cp s nf hv ha (k a · ha)⟩
theorem pe_mkK1 (M : Mk1 X.prog X.w X.K X.mg X.base nm C x fld) (hr : Room 6 X.A) (hg : Gl X nm) (hkw : PK X kws ta) (hall : (backToKw pos (keywordEach kws X.env)).all (·.1.isSome) = true := by rfl) (hks : (backToKw pos (keywordEach kws X.env)).filterMap (·.1) = [x] := by rfl)
    (hdb : (nm == ("__debug__" : Str)) = false := by decide) (hpl : ((backTo pos (starEach [] X.env)).any (·.1) || (backToKw pos (keywordEach kws X.env)).any (·.1.isNone)) = false := by rfl) : PE X (.Call (.Name nm p) [] kws pos) (tMk1 X.K C fld ta) := by
  obtain ⟨fI, dI, E, F, _, b⟩ := M.has
  refine pe_conv (pe_oexK0 E.ox E.ini E.ti F hr b pass0 hg E.gl (pk_up hkw) hall hks hdb hpl) fun σ H Q h => ⟨_, h, ?_⟩
  rintro vs H1 ⟨v, d, G, rfl, cp, s, nf, hv, k⟩
  exact fun a ha => e1_go cp s nf hv ha (k a · ha)
theorem pe_mk2 (hfg : gld ≠ fld) (M : Mk2 X.prog X.w X.K X.mg X.base nm C x y fld gld) (hr : Room 6 X.A) (hg : Gl X nm) (ha : PA X [e, e2] ta) (hdb : (nm == ("__debug__" : Str)) = false := by decide) (he : starEach [e, e2] X.env = (false, eval e X.env) :: starEach [e2] X.env := by rfl) (hpl : (backTo pos (starEach [e2] X.env)).any (·.1) = false := by rfl) :
    PE X (.Call (.Name nm p) [e, e2] [] pos) (tMk2 X.K C fld gld ta) := by
  obtain ⟨fI, dI, E, F, b, _⟩ := M.has
  refine pe_conv (pe_oex E.ox E.ini E.ti F hr b .nil pass0 hg E.gl (pa_up ha) hdb he hpl) fun σ H Q h => ⟨_, h, ?_⟩
  rintro vs H1 ⟨v, u, d, e, G, rfl, cp, cp2, s, nf, hv, hu, k⟩
  exact ⟨(show 2 ≤ 1000 by decide), fun a ha => e2_go hfg cp cp2 s nf hv hu ha (k a · ha)⟩
theorem pe_mkK2 (hfg : gld ≠ fld) (M : Mk2 X.prog X.w X.K X.mg X.base nm C x y fld gld) (hr : Room 6 X.A) (hg : Gl X nm) (hkw : PK X kws ta) (hall : (backToKw pos (keywordEach kws X.env)).all (·.1.isSome) = true := by rfl) (hks : (backToKw pos (keywordEach kws X.env)).filterMap (·.1) = [y, x] := by rfl)
    (hdb : (nm == ("__debug__" : Str)) = false := by decide) (hpl : ((backTo pos (starEach [] X.env)).any (·.1) || (backToKw pos (keywordEach kws X.env)).any (·.1.isNone)) = false := by rfl) : PE X (.Call (.Name nm p) [] kws pos) (tMkK2 X.K C fld gld ta) := by
  obtain ⟨fI, dI, E, F, _, b⟩ := M.has
  refine pe_conv (pe_oexK0 E.ox E.ini E.ti F hr b pass0 hg E.gl (pk_up hkw) hall hks hdb hpl) fun σ H Q h => ⟨_, h, ?_⟩
  rintro vs H1 ⟨v, u, d, e, G, rfl, cp, cp2, s, nf, hv, hu, k⟩
  exact fun a ha => e2_go hfg cp cp2 s nf hv hu ha (k a · ha)
end
end K37
end

section
set_option Elab.async false
set_option linter.all false
set_option maxRecDepth 100000
set_option maxHeartbeats 4000000
/-! keywords to parameters -/
namespace K37
open PySem PySem.Spec PyProof.Rows L2 KZ
theorem vals_take1 {vs : List V} {us : List Value} (h : Vals vs us) : Vals (vs.take 1) (us.take 1) := by
  cases h with
  | nil => exact .nil
  | cons a b => exact .cons a .nil
theorem vals_rev2 {vs : List V} {us : List Value} (h : Vals vs us) : Vals (vs.take 2).reverse (us.take 2).reverse := by
  cases h with
  | nil => exact .nil
  | cons a h =>
    cases h with
    | nil => exact .cons a .nil
    | cons b h => exact .cons b (.cons a .nil)
theorem vals_rev3 {vs : List V} {us : List Value} (h : Vals vs us) : Vals (vs.take 3).reverse (us.take 3).reverse := by
  cases h with
  | nil => exact .nil
  | cons a h =>
    cases h with
    | nil => exact .cons a .nil
    | cons b h =>
      cases h with
      | nil => exact .cons b (.cons a .nil)
      | cons c h => exact .cons c (.cons b (.cons a .nil))
section
variable {K : PySem.W.Frag} {x qual p q r : Str} {st : Stmt} {f : Addr} {fd : FuncData}
abbrev FN (x qual : Str) (st : Stmt) (kV doc pm : Value) (an : Option Addr) (cdv ct : Value) : FuncData := PySem.W.fnOf x qual (defArgs st) (defBody st) (defScope st) .none kV doc pm an cdv ct
theorem kb_one (F : Fun K x qual st f fd) (h0 : ∀ (kV doc pm : Value) (an : Option Addr) (cdv ct v : Value), bindArgs (FN x qual st kV doc pm an cdv ct) ⟨[], [(p, v)]⟩ = pure [(p, v)])
    (h1 : ∀ (kV doc pm : Value) (an : Option Addr) (cdv ct v : Value), bindArgs (FN x qual st kV doc pm an cdv ct) ⟨[v], []⟩ = pure [(p, v)]) : KBinds K fd [p] [p] (fun us ws => us ++ ws.take 1) fun vs zs => vs ++ zs.take 1 := by
  obtain ⟨oc, od, kV, doc, pm, an, cdv, ct, osl, rfl, _⟩ := F.ex
  refine ⟨fun s us ws _ hl => ?_, fun a b => a.append (vals_take1 b)⟩
  match us, ws, hl with
  | [], v :: _, _ => exact .of_eq (h0 kV doc pm an cdv ct v)
  | [v], [], _ => exact .of_eq (h1 kV doc pm an cdv ct v)
theorem kb_self (F : Fun K x qual st f fd) (h0 : ∀ (kV doc pm : Value) (an : Option Addr) (cdv ct s v : Value), bindArgs (FN x qual st kV doc pm an cdv ct) ⟨[s], [(q, v)]⟩ = pure [(p, s), (q, v)])
    (h1 : ∀ (kV doc pm : Value) (an : Option Addr) (cdv ct s v : Value), bindArgs (FN x qual st kV doc pm an cdv ct) ⟨[s, v], []⟩ = pure [(p, s), (q, v)]) : KBinds K fd [p, q] [q] (fun us ws => us ++ ws.take 1) fun vs zs => vs ++ zs.take 1 := by
  obtain ⟨oc, od, kV, doc, pm, an, cdv, ct, osl, rfl, _⟩ := F.ex
  refine ⟨fun s us ws _ hl => ?_, fun a b => a.append (vals_take1 b)⟩
  match us, ws, hl with
  | [a], v :: _, _ => exact .of_eq (h0 kV doc pm an cdv ct a v)
  | [a, v], [], _ => exact .of_eq (h1 kV doc pm an cdv ct a v)
  | [], ws, hl => exact absurd hl (by simp only [List.length_append, List.length_take, List.length_reverse, List.length_cons, List.length_nil]; omega)
  | [a], [], hl => exact absurd hl (by simp only [List.length_append, List.length_take, List.length_reverse, List.length_cons, List.length_nil]; omega)
  | [a, v], _ :: _, hl => exact absurd hl (by simp only [List.length_append, List.length_take, List.length_reverse, List.length_cons, List.length_nil]; omega)
  | _ :: _ :: _ :: _, ws, hl => exact absurd hl (by simp only [List.length_append, List.length_take, List.length_reverse, List.length_cons, List.length_nil]; omega)
theorem kb_self2 (F : Fun K x qual st f fd) (h0 : ∀ (kV doc pm : Value) (an : Option Addr) (cdv ct s v u : Value), bindArgs (FN x qual st kV doc pm an cdv ct) ⟨[s], [(r, u), (q, v)]⟩ = pure [(p, s), (q, v), (r, u)])
    (h1 : ∀ (kV doc pm : Value) (an : Option Addr) (cdv ct s v u : Value), bindArgs (FN x qual st kV doc pm an cdv ct) ⟨[s, v], [(r, u)]⟩ = pure [(p, s), (q, v), (r, u)])
    (h2 : ∀ (kV doc pm : Value) (an : Option Addr) (cdv ct s v u : Value), bindArgs (FN x qual st kV doc pm an cdv ct) ⟨[s, v, u], []⟩ = pure [(p, s), (q, v), (r, u)]) : KBinds K fd [p, q, r] [r, q] (fun us ws => us ++ (ws.take 2).reverse) fun vs zs => vs ++ (zs.take 2).reverse := by
  obtain ⟨oc, od, kV, doc, pm, an, cdv, ct, osl, rfl, _⟩ := F.ex
  refine ⟨fun s us ws _ hl => ?_, fun a b => a.append (vals_rev2 b)⟩
  match us, ws, hl with
  | [a], u :: v :: _, _ => exact .of_eq (h0 kV doc pm an cdv ct a v u)
  | [a, v], [u], _ => exact .of_eq (h1 kV doc pm an cdv ct a v u)
  | [a, v, u], [], _ => exact .of_eq (h2 kV doc pm an cdv ct a v u)
  | [], ws, hl => exact absurd hl (by simp only [List.length_append, List.length_take, List.length_reverse, List.length_cons, List.length_nil]; omega)
  | [a], [], hl => exact absurd hl (by simp only [List.length_append, List.length_take, List.length_reverse, List.length_cons, List.length_nil]; omega)
  | [a], [_], hl => exact absurd hl (by simp only [List.length_append, List.length_take, List.length_reverse, List.length_cons, List.length_nil]; omega)
  | [a, v], [], hl => exact absurd hl (by simp only [List.length_append, List.length_take, List.length_reverse, List.length_cons, List.length_nil]; omega)
  | [a, v], _ :: _ :: _, hl => exact absurd hl (by simp only [List.length_append, List.length_take, List.length_reverse, List.length_cons, List.length_nil]; omega)
  | [a, v, u], _ :: _, hl => exact absurd hl (by simp only [List.length_append, List.length_take, List.length_reverse, List.length_cons, List.length_nil]; omega)
  | _ :: _ :: _ :: _ :: _, ws, hl => exact absurd hl (by simp only [List.length_append, List.length_take, List.length_reverse, List.length_cons, List.length_nil]; omega)
theorem kb_three (F : Fun K x qual st f fd) (h0 : ∀ (kV doc pm : Value) (an : Option Addr) (cdv ct s v u : Value), bindArgs (FN x qual st kV doc pm an cdv ct) ⟨[], [(r, u), (q, v), (p, s)]⟩ = pure [(p, s), (q, v), (r, u)])
    (h1 : ∀ (kV doc pm : Value) (an : Option Addr) (cdv ct s v u : Value), bindArgs (FN x qual st kV doc pm an cdv ct) ⟨[s], [(r, u), (q, v)]⟩ = pure [(p, s), (q, v), (r, u)])
    (h2 : ∀ (kV doc pm : Value) (an : Option Addr) (cdv ct s v u : Value), bindArgs (FN x qual st kV doc pm an cdv ct) ⟨[s, v], [(r, u)]⟩ = pure [(p, s), (q, v), (r, u)])
    (h3 : ∀ (kV doc pm : Value) (an : Option Addr) (cdv ct s v u : Value), bindArgs (FN x qual st kV doc pm an cdv ct) ⟨[s, v, u], []⟩ = pure [(p, s), (q, v), (r, u)]) : KBinds K fd [p, q, r] [r, q, p] (fun us ws => us ++ (ws.take 3).reverse) fun vs zs => vs ++ (zs.take 3).reverse := by
  obtain ⟨oc, od, kV, doc, pm, an, cdv, ct, osl, rfl, _⟩ := F.ex
  refine ⟨fun s us ws _ hl => ?_, fun a b => a.append (vals_rev3 b)⟩
  match us, ws, hl with
  | [], u :: v :: a :: _, _ => exact .of_eq (h0 kV doc pm an cdv ct a v u)
  | [a], [u, v], _ => exact .of_eq (h1 kV doc pm an cdv ct a v u)
  | [a, v], [u], _ => exact .of_eq (h2 kV doc pm an cdv ct a v u)
  | [a, v, u], [], _ => exact .of_eq (h3 kV doc pm an cdv ct a v u)
  | [], [], hl => exact absurd hl (by simp only [List.length_append, List.length_take, List.length_reverse, List.length_cons, List.length_nil]; omega)
  | [], [_], hl => exact absurd hl (by simp only [List.length_append, List.length_take, List.length_reverse, List.length_cons, List.length_nil]; omega)
  | [], [_, _], hl => exact absurd hl (by simp only [List.length_append, List.length_take, List.length_reverse, List.length_cons, List.length_nil]; omega)
  | [a], [], hl => exact absurd hl (by simp only [List.length_append, List.length_take, List.length_reverse, List.length_cons, List.length_nil]; omega)
  | [a], [_], hl => exact absurd hl (by simp only [List.length_append, List.length_take, List.length_reverse, List.length_cons, List.length_nil]; omega)
  | [a], _ :: _ :: _ :: _, hl => exact absurd hl (by simp only [List.length_append, List.length_take, List.length_reverse, List.length_cons, List.length_nil]; omega)
  | [a, v], [], hl => exact absurd hl (by simp only [List.length_append, List.length_take, List.length_reverse, List.length_cons, List.length_nil]; omega)
  | [a, v], _ :: _ :: _, hl => exact absurd hl (by simp only [List.length_append, List.length_take, List.length_reverse, List.length_cons, List.length_nil]; omega)
  | [a, v, u], _ :: _, hl => exact absurd hl (by simp only [List.length_append, List.length_take, List.length_reverse, List.length_cons, List.length_nil]; omega)
  | _ :: _ :: _ :: _ :: _, ws, hl => exact absurd hl (by simp only [List.length_append, List.length_take, List.length_reverse, List.length_cons, List.length_nil]; omega)
end
end K37
end

section
set_option Elab.async false
set_option linter.all false
set_option maxRecDepth 100000
set_option maxHeartbeats 4000000
/-! what an ask is made of -/
namespace K37
open PySem L2 KZ
abbrev sCount : Stmt := top 16
abbrev sCheckAsk : Stmt := top 15
/-- x not in (a, b, ..), of data -/
def rNotInT (K : PySem.W.Frag) : R2 := fun x y H Q => ∃ d ts, Dp K H x d ∧ Dp K H y (.tuple ts) ∧ SeqAt.shaped d = true ∧ SeqAt.shaped (.tuple ts) = true ∧ Q (.bl (!ts.any fun z => PyData.eqv z d)) H
theorem op_notInT {X : Cx} (room : X.A.units + 65 < cLine) : OpR X (compareOp .NotIn) (rNotInT X.K) := by
  intro pins s σ H x y v u Q I rx ry h
  obtain ⟨d, ts, gx, gy, sx, sy, q⟩ := h
  have ⟨_, r1⟩ := Dp.reads I d x v gx rx
  have ⟨_, r2⟩ := Dp.reads I (.tuple ts) y u gy ry
  exact SeqAt.notIn_tuple_reads r2 r1 (SeqAt.canLay_of_shaped sy) (SeqAt.canLay_of_shaped sx) (PyProof.Rows.room_in_shaped sx room) ⟨.bl _, H, I, rfl, q⟩
theorem room65 {k : Nat} {A : Around} (r : Room (k + 1) A) : A.units + 65 < cLine := by have := r.un; omega
/-- no dict in it -/
def nod : PyData → Bool
  | .list ds => nods ds
  | .tuple ds => nods ds
  | .dict _ => false
  | _ => true
where nods : List PyData → Bool
  | [] => true
  | d :: r => nod d && nods r
theorem Dv.dp {K : PySem.W.Frag} {H : Hp} {v : V} {d : PyData} (h : Dv K H v d) : nod d = true → Dp K H v d := by
  refine Dv.rec (motive_1 := fun v d _ => nod d = true → Dp K H v d) (motive_2 := fun vs ds _ => nod.nods ds = true → DpAll K H vs ds) (motive_3 := fun _ _ _ => True) (fun _ => .non) (fun b _ => .bl b) (fun i _ => .int i) (fun x _ => .str x) ?_ ?_ ?_ (fun _ => .nil) ?_ trivial (fun _ _ _ _ => trivial) h
  · intro a xs ds h1 _ ih z
    exact .lst h1 (ih z)
  · intro a xs ds h1 _ ih z
    exact .tup h1 (ih z)
  · intro a kvs ps _ _ _ z
    cases z
  · intro v vs d ds _ _ i j z
    have ⟨z1, z2⟩ := Bool.and_eq_true_iff.mp (show (nod d && nod.nods ds) = true from z)
    exact .cons (i z1) (j z2)
def isCount : PyData → Bool
  | .int i => decide (0 ≤ i)
  | _ => false
def wordOk (w : PyData) : Bool := ([.str "put", .str "get"] : List PyData).any fun z => PyData.eqv z w
def isPut : PyData → Bool
  | .str x => decide (x = "put")
  | _ => false
def endOk (b e : PyData) : Bool := match e, b with
  | .none, _ => true
  | .int j, .int i => decide (i < j)
  | _, _ => false
def toldOk (w e t : PyData) : Bool := match t, e with
  | .none, _ => true
  | _, .none => false
  | t, _ => !isPut w && isCount t
/-- the first part that is wrong -/
def bad (c w b e t : PyData) : Option Str :=
  if isName c = true then if wordOk w = true then if isCount b = true then if endOk b e = true then if toldOk w e t = true then none else some "told" else some "ended" else some "begun" else some "word" else some "client"
def spCount (K : PySem.W.Frag) : Sp := fun vs H Q _ => ∃ v d, vs = [v] ∧ Dv K H v d ∧ Q (.bl (isCount d)) H
/-- an error of the class c is let out, its dict holds fs -/
def OutF (c : Addr) (fs : List (Str × V)) (H : Hp) (E : XK) : Prop := ∀ d H', Same H H' → H' d = some (.xd fs) → E (.ref c) (some d) H'
theorem OutF.at {c : Addr} {fs : List (Str × V)} {H H' : Hp} {E : XK} (q : OutF c fs H E) (s : Same H H') : OutF c fs H' E := fun d H2 s2 => q d H2 (s.trans s2)
def spCheck (K : PySem.W.Frag) (cB : Addr) : Sp := fun vs H Q E => ∃ vc dc vw dw vb db ve de vt dt, vs = [vc, vw, vb, ve, vt] ∧ Dv K H vc dc ∧ (∀ x, dc = .str x → x.length ≤ 1000) ∧ Dv K H vw dw ∧ nod dw = true ∧ SeqAt.shaped dw = true ∧ Dv K H vb db ∧ Dv K H ve de ∧ Dv K H vt dt ∧
  (bad dc dw db de dt = none → ∀ H', Same H H' → Q .non H') ∧ ∀ p, bad dc dw db de dt = some p → OutF cB [("part", .str p)] H E
section
variable {P : Program} {w : World} {K : PySem.W.Frag} {mg : Str → Option Value} {base : Heap} {fI fN fC cB : Addr} {dI dN dC : FuncData}
theorem scCount : FnScope ["value"] ["value"] (defScope sCount) := ⟨rfl, rfl, rfl, by decide +kernel, rfl, by decide +kernel, by decide +kernel⟩
theorem ok_count {f : Addr} {fd : FuncData} (F : Fun K "is_count" "is_count" sCount f fd) (T : B0 mg) (gI : mg "is_integer" = some (.ref fI)) (FI : Fun K "is_integer" "is_integer" sIsInt fI dI) (bI : Binds K dI ["value"] []) : FnOk P w K mg base CX0 2 f fd ["value"] (spCount K) := by
  have GI : FnOk P w K mg base CX0 1 fI dI ["value"] (spIsInt K) := ok_is_integer FI T
  refine F.ok scCount (fun vs H Q E h => ?_) (fun cdv A outer s H vs Q E hr h => ?_)
  · obtain ⟨v, d, rfl, _⟩ := h
    rfl
  · obtain ⟨v, d, rfl, hd, q⟩ := h
    have hr1 : Room 1 _ := hr.mono (by decide)
    refine ⟨_, (pss_one (ps_ret (pe_and (pe_call GI hr1 (by rfl) gI FI.kp bI .nil pass0 (pa_cons (pv 0) pa_nil)) (pe_one (pe_cmpR op_ge (pv 0) pe_int (nomark _)))))), ?_⟩
    refine ⟨v, rfl, v, d, rfl, hd, _, rfl, ?_⟩
    cases d with
    | int i =>
      cases hd
      exact iteT ⟨_, rfl, i, 0, rfl, rfl, q⟩
    | _ => exact iteF q
theorem scCheck : FnScope ["client", "word", "begun", "ended", "told"] ["client", "word", "begun", "ended", "told"] (defScope sCheckAsk) := ⟨rfl, rfl, rfl, by decide +kernel, rfl, by decide +kernel, by decide +kernel⟩
theorem raise_str {σ : L2.St} {H : Hp} {E : XK} {p : Str} (q : OutF cB [("part", .str p)] H E) : tMkO cB (spE1 K cB "part") [] (tCons (tC (.str p)) tNil) σ H fun cls d H' => E cls d H' := by
  refine ⟨(show 1 ≤ 1000 by decide), fun a ha => ⟨a, .str p, .str p, fun _ => none, rfl, trivial, (fun _ _ z => nomatch z), (fun _ _ _ z => nomatch z), rfl, .str _, upd_same, ?_⟩⟩
  intro v' G' dx H' s1 nf' bs ga gd hdx ne s' kp ea ed dv'
  cases dv'
  refine ⟨rfl, dx, _, ea, ed, by rw [upd_ne ne] at hdx; exact hdx, q dx _ (fun b o e => ?_) upd_same⟩
  have hb : b ≠ a := ne_of_none e ha
  rw [upd_ne ne] at hdx
  rw [upd_ne (ne_of_none e hdx), del_ne hb]
  exact kp _ _ hb (by rw [upd_ne hb]; exact e)
theorem put_word {H : Hp} {w : V} {dw : PyData} (g : Dv K H w dw) (ok : wordOk dw = true) : ∃ x, w = .str x ∧ dw = .str x := by
  cases g with
  | str x => exact ⟨x, rfl, rfl⟩
  | _ => exact absurd ok (by simp [wordOk, PyData.eqv])
theorem iteT' {A B : Prop} (h : A) : (if true = true then A else B) := by rw [if_pos rfl]; exact h
theorem iteF' {A B : Prop} (h : B) : (if false = true then A else B) := by rw [if_neg (by decide)]; exact h
theorem told_go {H : Hp} {Q : VK} {E : XK} {vc ve vt : V} {x : Str} {b : V} {de dt : PyData} (ge : Dv K H ve de) (gt : Dv K H vt dt) (q1 : toldOk (.str x) de dt = true → Q .non H) (q2 : toldOk (.str x) de dt = false → OutF cB [("part", .str "told")] H E) :
    tIfS (tAnd (tTest (tOp (fun x y H Q => y = V.non ∧ Q (V.bl !decide (x = V.non)) H) (tVar 4) (tC V.non))) (tOr (tTest (tOp rEq (tVar 1) (tC (V.str "put"))))
      (tOr (tTest (tOp (fun x y H Q => y = V.non ∧ Q (V.bl (decide (x = V.non))) H) (tVar 3) (tC V.non))) (tNot (tB (tCall (spCount K) [] E0 (tCons (tVar 4) tNil)))))))
      (fun _ σ H => tMkO cB (spE1 K cB "part") [] (tCons (tC (V.str "told")) tNil) σ H fun cls d H' => E cls d H') tNext { nx := fun _ H' => Q V.non H', rt := Q } (L2.start ["client", "word", "begun", "ended", "told"] [vc, .str x, b, ve, vt]) H := by
  have nn : ∀ {d : PyData} {v : V}, Dv K H v d → d ≠ .none → decide (v = V.non) = false := by
    intro d v h hn
    cases h <;> first | exact absurd rfl hn | exact decide_eq_false fun z => nomatch z
  by_cases tn : dt = .none
  · subst tn
    cases gt
    exact ⟨.non, rfl, rfl, false, rfl, iteF (iteF (q1 (by cases de <;> rfl)))⟩
  · refine ⟨vt, rfl, rfl, true, by rw [nn gt tn]; rfl, ?_⟩
    have tk : toldOk (.str x) de dt = (match de with
      | .none => false
      | _ => !isPut (.str x) && isCount dt) := by
      cases dt <;> first | exact absurd rfl tn | (cases de <;> rfl)
    by_cases px : x = "put"
    · subst px
      rw [show toldOk (.str "put") de dt = false by rw [tk]; cases de <;> rfl] at q2
      exact iteT' ⟨.str "put", rfl, rfl, true, rfl, iteT' (iteT' (raise_str (q2 rfl)))⟩
    · have e1 : V.bl (decide (V.str x = V.str "put")) = V.bl false := congrArg V.bl (decide_eq_false fun z => px (V.str.inj z))
      have ip : isPut (.str x) = false := decide_eq_false px
      refine iteT' ⟨.str x, rfl, rfl, false, e1, iteF' ?_⟩
      by_cases en : de = .none
      · subst en
        cases ge
        exact ⟨.non, rfl, rfl, true, rfl, iteT' (iteT' (raise_str (q2 (by rw [tk]))))⟩
      · refine ⟨ve, rfl, rfl, false, by rw [nn ge en], iteF' ⟨vt, rfl, vt, dt, rfl, gt, isCount dt, rfl, ?_⟩⟩
        have tk2 : toldOk (.str x) de dt = isCount dt := by
          rw [tk, ip]
          cases de <;> first | exact absurd rfl en | rfl
        cases c : isCount dt with
        | true => exact iteF' (q1 (tk2.trans c))
        | false => exact iteT' (raise_str (q2 (tk2.trans c)))
theorem ok_check_ask {f : Addr} {fd : FuncData} (F : Fun K "check_ask" "check_ask" sCheckAsk f fd) (T : B0 mg) (C : C0 mg fI) (gN : mg "is_name" = some (.ref fN)) (gC : mg "is_count" = some (.ref fC))
    (FI : Fun K "is_integer" "is_integer" sIsInt fI dI) (bI : Binds K dI ["value"] []) (FN : Fun K "is_name" "is_name" sIsName fN dN) (bN : Binds K dN ["value"] []) (FC : Fun K "is_count" "is_count" sCount fC dC) (bC : Binds K dC ["value"] [])
    (M : Mk1 P w K mg base "BadAsk" cB "part" "part") : FnOk P w K mg base (L2.CX P w) 7 f fd ["client", "word", "begun", "ended", "told"] (spCheck K cB) := by
  have GI : FnOk P w K mg base CX0 1 fI dI ["value"] (spIsInt K) := ok_is_integer FI T
  have GN : FnOk P w K mg base CX0 1 fN dN ["value"] (spName K) := ok_is_name FN T C
  have GC : FnOk P w K mg base CX0 2 fC dC ["value"] (spCount K) := ok_count FC T C.gI FI bI
  have gI := C.gI
  obtain ⟨fR, dR, ER, FR, bR, _⟩ := M.has
  refine F.okX scCheck (fun vs H Q E h => ?_) (fun cdv A outer s H vs Q E hr h => ?_)
  · obtain ⟨vc, dc, vw, dw, vb, db, ve, de, vt, dt, rfl, _⟩ := h
    rfl
  · obtain ⟨vc, dc, vw, dw, vb, db, ve, de, vt, dt, rfl, gc, sz, gw, nw, sw, gb, ge, gt, q1, q2⟩ := h
    have hr1 : Room 1 _ := hr.mono (by decide)
    have hr2 : Room 2 _ := hr.mono (by decide)
    refine ⟨_, (pss_cons (ps_if (pt_not (pt_val (pe_call GN hr1 (by rfl) gN FN.kp bN .nil pass0 (pa_cons (pv 0) pa_nil))))
(pss_one (ps_raise rfl (takes_of rfl rfl rfl rfl) (pmk_oex ER.ox ER.ini ER.ti FR hr bR .nil pass0 (by rfl) ER.gl (pa_cons pe_str pa_nil))))
pss_nil)
(pss_cons (ps_if (pt_cmpR (op_notInT (room65 hr)) (pv 1) (pe_tup (pa_cons pe_str (pa_cons pe_str pa_nil))) (by rfl))
(pss_one (ps_raise rfl (takes_of rfl rfl rfl rfl) (pmk_oex ER.ox ER.ini ER.ti FR hr bR .nil pass0 (by rfl) ER.gl (pa_cons pe_str pa_nil))))
pss_nil)
(pss_cons (ps_if (pt_not (pt_val (pe_call GC hr2 (by rfl) gC FC.kp bC .nil pass0 (pa_cons (pv 2) pa_nil))))
(pss_one (ps_raise rfl (takes_of rfl rfl rfl rfl) (pmk_oex ER.ox ER.ini ER.ti FR hr bR .nil pass0 (by rfl) ER.gl (pa_cons pe_str pa_nil))))
pss_nil)
(pss_cons (ps_if (PW.pt (pw_and (pt_cmpR op_notN (pv 3) pe_non (nomark _)) (pw_and1 (pt_not (PW.pt (pw_and (pt_val (pe_call GI hr1 (by rfl) gI FI.kp bI .nil pass0 (pa_cons (pv 3) pa_nil))) (pw_and1 (pt_cmpR op_gt (pv 3) (pv 2) (nomark _)))))))))
(pss_one (ps_raise rfl (takes_of rfl rfl rfl rfl) (pmk_oex ER.ox ER.ini ER.ti FR hr bR .nil pass0 (by rfl) ER.gl (pa_cons pe_str pa_nil))))
pss_nil)
(pss_one (ps_if (PW.pt (pw_and (pt_cmpR op_notN (pv 4) pe_non (nomark _)) (pw_and1 (PW.pt (pw_or (pt_cmpR op_eq (pv 1) pe_str (nomark _)) (pw_or (pt_cmpR op_isN (pv 3) pe_non (nomark _)) (pw_or1 (pt_not (pt_val (pe_call GC hr2 (by rfl) gC FC.kp bC .nil pass0 (pa_cons (pv 4) pa_nil)))))))))))
(pss_one (ps_raise rfl (takes_of rfl rfl rfl rfl) (pmk_oex ER.ox ER.ini ER.ti FR hr bR .nil pass0 (by rfl) ER.gl (pa_cons pe_str pa_nil))))
pss_nil)))))), ?_⟩
    refine ⟨vc, rfl, vc, dc, rfl, gc, sz, fun H1 s1 => ⟨isName dc, rfl, ?_⟩⟩
    cases c1 : isName dc with
    | false => exact iteT (raise_str ((q2 "client" (by unfold bad; rw [c1]; rfl)).at s1))
    | true =>
    refine iteF ?_
    refine ⟨vw, rfl, (by show 2 ≤ sizeLine; decide), fun t ht => ?_⟩
    have s2 := s1.trans (same_new (o := .tup [V.str "put", V.str "get"]) ht)
    have gw2 := Dv.mono s2 gw
    have gb2 := Dv.mono s2 gb
    have ge2 := Dv.mono s2 ge
    have gt2 := Dv.mono s2 gt
    refine ⟨dw, [.str "put", .str "get"], Dv.dp gw2 nw, .tup (SqT.of upd_same) (.cons (.str _) (.cons (.str _) .nil)), sw, by decide +kernel, !wordOk dw, rfl, ?_⟩
    generalize upd H1 t _ = H2 at s2 gw2 gb2 ge2 gt2 ⊢
    cases c2 : wordOk dw with
    | false => exact iteT (raise_str ((q2 "word" (by unfold bad; rw [c1, c2]; rfl)).at s2))
    | true =>
    refine iteF ?_
    refine ⟨vb, rfl, vb, db, rfl, gb2, isCount db, rfl, ?_⟩
    cases c3 : isCount db with
    | false => exact iteT (raise_str ((q2 "begun" (by unfold bad; rw [c1, c2, c3]; rfl)).at s2))
    | true =>
    refine iteF ?_
    obtain ⟨i, rfl⟩ : ∃ i, db = .int i := by
      cases db with
      | int i => exact ⟨i, rfl⟩
      | _ => cases c3
    cases gb2
    obtain ⟨x, rfl, rfl⟩ := put_word gw2 c2
    have fin : endOk (.int i) de = true → toldOk (.str x) de dt = true → bad dc (.str x) (.int i) de dt = none := fun z1 z2 => by unfold bad; rw [c1, c2, c3, z1, z2]; rfl
    have fin2 : endOk (.int i) de = true → toldOk (.str x) de dt = false → bad dc (.str x) (.int i) de dt = some "told" := fun z1 z2 => by unfold bad; rw [c1, c2, c3, z1, z2]; rfl
    have fin3 : endOk (.int i) de = false → bad dc (.str x) (.int i) de dt = some "ended" := fun z1 => by unfold bad; rw [c1, c2, c3, z1]; rfl
    have last : ∀ vb, endOk (.int i) de = true → _ := fun vb z1 => told_go (vc := vc) (b := vb) (H := H2) (Q := Q) (E := E) ge2 gt2 (fun z2 => q1 (fin z1 z2) H2 s2) (fun z2 => (q2 "told" (fin2 z1 z2)).at s2)
    by_cases en : de = .none
    · subst en
      cases ge2
      exact ⟨.non, rfl, rfl, false, rfl, iteF' (iteF' (last (.int i) rfl))⟩
    · have nn : decide (ve = V.non) = false := by
        cases ge2 <;> first | exact absurd rfl en | exact decide_eq_false fun z => nomatch z
      refine ⟨ve, rfl, rfl, true, by rw [nn]; rfl, iteT' ⟨ve, rfl, ve, de, rfl, ge2, isInt de, rfl, ?_⟩⟩
      cases de with
      | int j =>
        cases ge2
        refine iteT' ⟨.int j, rfl, .int i, rfl, j, i, rfl, rfl, decide (i < j), rfl, ?_⟩
        cases c4 : decide (i < j) with
        | true => exact iteF' (last (.int i) c4)
        | false => exact iteT' (raise_str ((q2 "ended" (fin3 c4)).at s2))
      | none => exact absurd rfl en
      | _ => exact iteF' (iteT' (raise_str ((q2 "ended" (fin3 rfl)).at s2)))
end
end K37
end

section
set_option Elab.async false
set_option linter.all false
set_option maxRecDepth 100000
set_option maxHeartbeats 4000000
/-! an ask -/
namespace K37
open PySem L2 KZ
abbrev sInit : Stmt := mem 13 0
abbrev sAhead : Stmt := mem 13 1
abbrev sEq : Stmt := mem 13 2
/-- what an ask is made of: client, whether it is a get, begin, end, what it tells -/
structure Row where
  c : Str
  g : Bool
  b : Int
  e : Option Int
  t : Option Int
  deriving DecidableEq
def wd : Bool → Str
  | true => "get"
  | false => "put"
def oV : Option Int → V
  | none => .non
  | some i => .int i
def oD : Option Int → PyData
  | none => .none
  | some i => .int i
theorem oV_dv {K : PySem.W.Frag} {H : Hp} (o : Option Int) : Dv K H (oV o) (oD o) := by
  cases o with
  | none => exact .non
  | some i => exact .int i
structure Row.Ok (r : Row) : Prop where
  n : isName (.str r.c) = true
  b0 : 0 ≤ r.b
  eb : ∀ e, r.e = some e → r.b < e
  tg : ∀ t, r.t = some t → r.g = true ∧ r.e ≠ none ∧ 0 ≤ t
def flds (r : Row) : List (Str × V) := [("client", .str r.c), ("word", .str (wd r.g)), ("begun", .int r.b), ("ended", oV r.e), ("told", oV r.t)]
/-- at a stands the ask of the row r -/
def AskAt (C : Addr) (H : Hp) (a : Addr) (r : Row) : Prop := ∃ dx, H a = some (.ins C dx (flds r))
theorem AskAt.mono {C : Addr} {H H' : Hp} {a : Addr} {r : Row} (s : Same H H') (h : AskAt C H a r) : AskAt C H' a r := h.imp fun _ z => s _ _ z
theorem bad_none {c w b e t : PyData} (h : bad c w b e t = none) : ∃ r : Row, r.Ok ∧ c = .str r.c ∧ w = .str (wd r.g) ∧ b = .int r.b ∧ e = oD r.e ∧ t = oD r.t := by
  unfold bad at h
  cases h1 : isName c with
  | false => rw [h1] at h; cases h
  | true =>
  cases h2 : wordOk w with
  | false => rw [h1, h2] at h; cases h
  | true =>
  cases h3 : isCount b with
  | false => rw [h1, h2, h3] at h; cases h
  | true =>
  cases h4 : endOk b e with
  | false => rw [h1, h2, h3, h4] at h; cases h
  | true =>
  cases h5 : toldOk w e t with
  | false => rw [h1, h2, h3, h4, h5] at h; cases h
  | true =>
  obtain ⟨x, rfl⟩ : ∃ x, c = .str x := by
    cases c with
    | str x => exact ⟨x, rfl⟩
    | _ => cases h1
  obtain ⟨g, rfl⟩ : ∃ g, w = .str (wd g) := by
    cases w with
    | str x =>
      have z : (decide (("put" : Str) = x) || (decide (("get" : Str) = x) || false)) = true := h2
      rcases Bool.or_eq_true_iff.mp z with z | z
      · exact ⟨false, by rw [← of_decide_eq_true z]; rfl⟩
      · rw [Bool.or_false] at z
        exact ⟨true, by rw [← of_decide_eq_true z]; rfl⟩
    | _ => cases h2
  obtain ⟨i, rfl⟩ : ∃ i, b = .int i := by
    cases b with
    | int i => exact ⟨i, rfl⟩
    | _ => cases h3
  obtain ⟨oe, rfl⟩ : ∃ o, e = oD o := by
    cases e with
    | none => exact ⟨none, rfl⟩
    | int j => exact ⟨some j, rfl⟩
    | _ => cases h4
  obtain ⟨ot, rfl⟩ : ∃ o, t = oD o := by
    cases t with
    | none => exact ⟨none, rfl⟩
    | int j => exact ⟨some j, rfl⟩
    | _ => cases oe <;> simp [toldOk, oD, isCount] at h5
  refine ⟨⟨x, g, i, oe, ot⟩, ⟨h1, of_decide_eq_true h3, ?_, ?_⟩, rfl, rfl, rfl, rfl, rfl⟩
  · rintro e rfl
    exact of_decide_eq_true h4
  · rintro t rfl
    cases oe with
    | none => cases h5
    | some e =>
      have ⟨z1, z2⟩ := Bool.and_eq_true_iff.mp (show (!isPut (.str (wd g)) && isCount (.int t)) = true from h5)
      refine ⟨?_, fun z => (nomatch z), of_decide_eq_true z2⟩
      cases g with
      | true => rfl
      | false => cases z1
theorem bad_of {r : Row} (k : r.Ok) : bad (.str r.c) (.str (wd r.g)) (.int r.b) (oD r.e) (oD r.t) = none := by
  obtain ⟨c, g, b, e, t⟩ := r
  have h2 : wordOk (.str (wd g)) = true := by cases g <;> decide +kernel
  have h3 : isCount (.int b) = true := decide_eq_true k.b0
  have h4 : endOk (.int b) (oD e) = true := by
    cases e with
    | none => rfl
    | some e => exact decide_eq_true (k.eb e rfl)
  have h5 : toldOk (.str (wd g)) (oD e) (oD t) = true := by
    cases t with
    | none => cases e <;> rfl
    | some t =>
      obtain ⟨z1, z2, z3⟩ := k.tg t rfl
      have z1 : g = true := z1
      subst z1
      cases e with
      | none => exact absurd rfl z2
      | some e =>
        show (!isPut (.str "get") && isCount (.int t)) = true
        rw [show isCount (.int t) = true from decide_eq_true z3]
        decide +kernel
  have h1 : isName (.str c) = true := k.n
  unfold bad
  rw [h1, h2, h3, h4, h5]
  rfl
/-- the class Ask, as the top has left it -/
structure AskC (K : PySem.W.Frag) (mg : Str → Option Value) (C : Addr) : Prop where
  mg : mg "Ask" = some (.ref C)
  cl : Cls K C
  nc : NoAttr K C "client"
  nw : NoAttr K C "word"
  nb : NoAttr K C "begun"
  ne : NoAttr K C "ended"
  nt : NoAttr K C "told"
  ty : ∀ (H : Hp) (a dx : Addr) (fs : List (Str × V)), H a = some (.ins C dx fs) → TyOf K H (.ref a) (.ref C)
  me : PySem.W.kitOne K (.ref C) (.ref C) = some true
  no : ∀ T ∈ ["NoneType", "bool", "int", "str", "list", "tuple", "dict"], PySem.W.kitOne K (.type T) (.ref C) = some false
def spInit (K : PySem.W.Frag) (C cB : Addr) : Sp := fun vs H Q E => ∃ a dx vc dc vw dw vb db ve de vt dt, vs = [.ref a, vc, vw, vb, ve, vt] ∧ H a = some (.ins C dx []) ∧ Dv K H vc dc ∧ (∀ x, dc = .str x → x.length ≤ 1000) ∧ Dv K H vw dw ∧ nod dw = true ∧ SeqAt.shaped dw = true ∧ Dv K H vb db ∧ Dv K H ve de ∧ Dv K H vt dt ∧
  (∀ r : Row, r.Ok → dc = .str r.c → dw = .str (wd r.g) → db = .int r.b → de = oD r.e → dt = oD r.t → ∀ H', (∀ b o, b ≠ a → H b = some o → H' b = some o) → AskAt C H' a r → Q .non H') ∧ ∀ p, bad dc dw db de dt = some p → OutF cB [("part", .str p)] H E
/-- one ask ahead of another one -/
def ahead (r s : Row) : Bool := match r.e with
  | none => false
  | some e => decide (e < s.b)
/-- what is no ask -/
def NoAsk (K : PySem.W.Frag) (H : Hp) (C : Addr) (v : V) : Prop := ∃ t, TyX K H v t ∧ PySem.W.kitOne K t (.ref C) = some false
def spAhead (K : PySem.W.Frag) (C cB : Addr) : Sp := fun vs H Q E => ∃ a r y, vs = [.ref a, y] ∧ AskAt C H a r ∧ ((∃ b s, y = .ref b ∧ AskAt C H b s ∧ Q (.bl (ahead r s)) H) ∨ (NoAsk K H C y ∧ OutF cB [("part", .str "other")] H E))
def spEqA (K : PySem.W.Frag) (C : Addr) : Sp := fun vs H Q _ => ∃ a r y, vs = [.ref a, y] ∧ AskAt C H a r ∧ ((∃ b s, y = .ref b ∧ AskAt C H b s ∧ Q (.bl (decide (r = s))) H) ∨ (NoAsk K H C y ∧ Q (.bl false) H))
section
variable {P : Program} {w : World} {K : PySem.W.Frag} {mg : Str → Option Value} {base : Heap} {fK cB C : Addr} {dK : FuncData}
theorem scInit : FnScope ["self", "client", "word", "begun", "ended", "told"] ["self", "client", "word", "begun", "ended", "told"] (defScope sInit) := ⟨rfl, rfl, rfl, by decide +kernel, rfl, by decide +kernel, by decide +kernel⟩
theorem ok_init {f : Addr} {fd : FuncData} {q : Str} (F : FunD K "__init__" q (defArgs sInit) (defBody sInit) (defScope sInit) [.non, .non] [] f fd) (A : AskC K mg C) (gK : mg "check_ask" = some (.ref fK))
    (GK : FnOk P w K mg base (L2.CX P w) 7 fK dK ["client", "word", "begun", "ended", "told"] (spCheck K cB)) (FK : Fun K "check_ask" "check_ask" sCheckAsk fK dK) (bK : Binds K dK ["client", "word", "begun", "ended", "told"] []) :
    FnOk P w K mg base (L2.CX P w) 8 f fd ["self", "client", "word", "begun", "ended", "told"] (spInit K C cB) := by
  refine F.ok scInit (fun vs H Q E h => ?_) (fun cdv A' outer s H vs Q E hr h => ?_)
  · obtain ⟨a, dx, vc, dc, vw, dw, vb, db, ve, de, vt, dt, rfl, _⟩ := h
    rfl
  · obtain ⟨a, dx, vc, dc, vw, dw, vb, db, ve, de, vt, dt, rfl, ha, gc, sz, gw, nw, sw, gb, ge, gt, q1, q2⟩ := h
    refine ⟨_, (pss_cons (ps_expr (pe_call GK hr (by rfl) gK FK.kp bK .nil (passes_call (takes_of rfl rfl rfl rfl) fun _ _ _ _ z => z) (pa_cons (pv 1) (pa_cons (pv 2) (pa_cons (pv 3) (pa_cons (pv 4) (pa_cons (pv 5) pa_nil)))))))
(pss_cons (ps_fld (pv 0) (pv 1) rfl)
(pss_cons (ps_fld (pv 0) (pv 2) rfl)
(pss_cons (ps_fld (pv 0) (pv 3) rfl)
(pss_cons (ps_fld (pv 0) (pv 4) rfl)
(pss_one (ps_fld (pv 0) (pv 5) rfl))))))), ?_⟩
    refine ⟨vc, rfl, vw, rfl, vb, rfl, ve, rfl, vt, rfl, vc, dc, vw, dw, vb, db, ve, de, vt, dt, rfl, gc, sz, gw, nw, sw, gb, ge, gt, fun z H1 s1 => ?_, fun p z => q2 p z⟩
    obtain ⟨r, ok, rfl, rfl, rfl, rfl, rfl⟩ := bad_none z
    have e1 : vc = .str r.c := by cases gc; rfl
    have e2 : vw = .str (wd r.g) := by cases gw; rfl
    have e3 : vb = .int r.b := by cases gb; rfl
    have e4 : ve = oV r.e := by cases h : r.e <;> (rw [h] at ge; cases ge; rfl)
    have e5 : vt = oV r.t := by cases h : r.t <;> (rw [h] at gt; cases gt; rfl)
    subst e1 e2 e3 e4 e5
    have h1 := s1 _ _ ha
    refine ⟨_, rfl, _, rfl, a, C, dx, [], rfl, h1, A.cl, A.nc, (by decide), ?_⟩
    refine ⟨_, rfl, _, rfl, a, C, dx, _, rfl, upd_same, A.cl, A.nw, (by show 1 < 1000; decide), ?_⟩
    refine ⟨_, rfl, _, rfl, a, C, dx, _, rfl, upd_same, A.cl, A.nb, (by show 2 < 1000; decide), ?_⟩
    refine ⟨_, rfl, _, rfl, a, C, dx, _, rfl, upd_same, A.cl, A.ne, (by show 3 < 1000; decide), ?_⟩
    refine ⟨_, rfl, _, rfl, a, C, dx, _, rfl, upd_same, A.cl, A.nt, (by show 4 < 1000; decide), ?_⟩
    refine q1 r ok rfl rfl rfl rfl rfl _ (fun b o hb e => ?_) ⟨dx, upd_same⟩
    rw [upd_ne hb, upd_ne hb, upd_ne hb, upd_ne hb, upd_ne hb]
    exact s1 _ _ e
theorem scAhead : FnScope ["self", "other"] ["self", "other"] (defScope sAhead) := ⟨rfl, rfl, rfl, by decide +kernel, rfl, by decide +kernel, by decide +kernel⟩
theorem ok_ahead {f : Addr} {fd : FuncData} {q : Str} (F : Fun K "is_ahead" q sAhead f fd) (A : AskC K mg C) (T : B0 mg) (M : Mk1 P w K mg base "BadAsk" cB "part" "part") : FnOk P w K mg base (L2.CX P w) 7 f fd ["self", "other"] (spAhead K C cB) := by
  obtain ⟨fR, dR, ER, FR, bR, _⟩ := M.has
  refine F.okX scAhead (fun vs H Q E h => ?_) (fun cdv A' outer s H vs Q E hr h => ?_)
  · obtain ⟨a, r, y, rfl, _⟩ := h
    rfl
  · obtain ⟨a, r, y, rfl, ⟨dx, ha⟩, h⟩ := h
    refine ⟨_, (pss_cons (ps_if (pt_not (pt_val (pe_callB call_isi (by rfl) T.isi (by decide +kernel) (pa_cons (pv 1) (pa_cons (pe_glob (v := .ref C) (by rfl) A.mg rfl) pa_nil)))))
(pss_one (ps_raise rfl (takes_of rfl rfl rfl rfl) (pmk_oex ER.ox ER.ini ER.ti FR hr bR .nil pass0 (by rfl) ER.gl (pa_cons pe_str pa_nil))))
pss_nil)
(pss_one (ps_ret (pe_and (pe_cmpR op_notN (pe_fld (pv 0) rfl) pe_non (nomark _)) (pe_one (pe_cmpR op_lt (pe_fld (pv 0) rfl) (pe_fld (pv 1) rfl) (nomark _))))))), ?_⟩
    rcases h with ⟨b, s, rfl, ⟨dy, hb⟩, q⟩ | ⟨⟨t, ty, kn⟩, q⟩
    · refine ⟨.ref b, rfl, .ref b, .ref C, _, _, true, rfl, .own _, .base (A.ty H b dy _ hb), A.me, true, rfl, iteF' ?_⟩
      cases he : r.e with
      | none =>
        have q : Q (.bl false) H := by rw [ahead, he] at q; exact q
        refine ⟨_, rfl, a, C, dx, flds r, .non, rfl, ha, A.cl, A.ne, by rw [flds, he]; rfl, rfl, false, rfl, iteF' q⟩
      | some e =>
        have q : Q (.bl (decide (e < s.b))) H := by rw [ahead, he] at q; exact q
        refine ⟨_, rfl, a, C, dx, flds r, .int e, rfl, ha, A.cl, A.ne, by rw [flds, he]; rfl, rfl, true, rfl, iteT' ?_⟩
        exact ⟨_, rfl, a, C, dx, flds r, .int e, rfl, ha, A.cl, A.ne, by rw [flds, he]; rfl, _, rfl, b, C, dy, flds s, .int s.b, rfl, hb, A.cl, A.nb, rfl, e, s.b, rfl, rfl, q⟩
    · exact ⟨y, rfl, y, .ref C, _, _, false, rfl, .own _, ty, kn, false, rfl, iteT' (raise_str q)⟩
theorem scEq : FnScope ["self", "other"] ["self", "other"] (defScope sEq) := ⟨rfl, rfl, rfl, by decide +kernel, rfl, by decide +kernel, by decide +kernel⟩
theorem ok_eq {f : Addr} {fd : FuncData} {q : Str} (F : Fun K "__eq__" q sEq f fd) (A : AskC K mg C) (T : B0 mg) : FnOk P w K mg base CX0 1 f fd ["self", "other"] (spEqA K C) := by
  refine F.ok scEq (fun vs H Q E h => ?_) (fun cdv A' outer s H vs Q E hr h => ?_)
  · obtain ⟨a, r, y, rfl, _⟩ := h
    rfl
  · obtain ⟨a, r, y, rfl, ⟨dx, ha⟩, h⟩ := h
    refine ⟨_, (pss_cons (ps_if (pt_not (pt_val (pe_callB call_isi (by rfl) T.isi (by decide +kernel) (pa_cons (pv 1) (pa_cons (pe_glob (v := .ref C) (by rfl) A.mg rfl) pa_nil)))))
(pss_one (ps_ret pe_bl))
pss_nil)
(pss_cons (ps_if (PW.pt (pw_or (pt_cmpR op_ne (pe_fld (pv 0) rfl) (pe_fld (pv 1) rfl) (nomark _)) (pw_or (pt_cmpR op_ne (pe_fld (pv 0) rfl) (pe_fld (pv 1) rfl) (nomark _)) (pw_or1 (pt_cmpR op_ne (pe_fld (pv 0) rfl) (pe_fld (pv 1) rfl) (nomark _))))))
(pss_one (ps_ret pe_bl))
pss_nil)
(pss_one (ps_ret (pe_and (pe_cmpR op_eq (pe_fld (pv 0) rfl) (pe_fld (pv 1) rfl) (nomark _)) (pe_one (pe_cmpR op_eq (pe_fld (pv 0) rfl) (pe_fld (pv 1) rfl) (nomark _)))))))), ?_⟩
    rcases h with ⟨b, s, rfl, ⟨dy, hb⟩, q⟩ | ⟨⟨t, ty, kn⟩, q⟩
    · refine ⟨.ref b, rfl, .ref b, .ref C, _, _, true, rfl, .own _, .base (A.ty H b dy _ hb), A.me, true, rfl, iteF' ?_⟩
      refine ⟨_, rfl, a, C, dx, flds r, .str r.c, rfl, ha, A.cl, A.nc, rfl, _, rfl, b, C, dy, flds s, .str s.c, rfl, hb, A.cl, A.nc, rfl, ?_⟩
      have dq : ∀ {x y : V} {p : Prop} [Decidable p], (p ↔ x = y) → decide (x = y) = decide p := fun {x y p} _ h => by
        by_cases z : p
        · rw [decide_eq_true z, decide_eq_true (h.mp z)]
        · rw [decide_eq_false z, decide_eq_false fun k => z (h.mpr k)]
      have ne : ∀ {x y : V} {p : Prop} [Decidable p], (p ↔ x = y) → V.bl (!decide (x = y)) = V.bl (!decide p) := fun h => by rw [dq h]
      have eq : ∀ {x y : V} {p : Prop} [Decidable p], (p ↔ x = y) → V.bl (decide (x = y)) = V.bl (decide p) := fun h => by rw [dq h]
      have iO : ∀ o u : Option Int, o = u ↔ oV o = oV u := fun o u => ⟨fun z => by rw [z], fun z => by
        cases o <;> cases u <;> first | rfl | (cases z; done) | (cases z; rfl)⟩
      have sO : ∀ o u : Option Int, scal (oV o) (oV u) = true := fun o u => by cases o <;> cases u <;> rfl
      have iW : r.g = s.g ↔ V.str (wd r.g) = V.str (wd s.g) := ⟨fun z => by rw [z], fun z => by
        have z := V.str.inj z
        cases hg : r.g <;> cases hk : s.g <;> first | rfl | (rw [hg, hk] at z; exact absurd z (by decide))⟩
      have iS : r.c = s.c ↔ V.str r.c = V.str s.c := ⟨fun z => by rw [z], V.str.inj⟩
      have iB : r.b = s.b ↔ V.int r.b = V.int s.b := ⟨fun z => by rw [z], V.int.inj⟩
      have off : r ≠ s → Q (.bl false) H := fun z => by rw [decide_eq_false z] at q; exact q
      refine ⟨rfl, _, ne iS, ?_⟩
      by_cases c1 : r.c = s.c
      · rw [decide_eq_true c1]
        refine iteF' ⟨_, rfl, a, C, dx, flds r, .str (wd r.g), rfl, ha, A.cl, A.nw, rfl, _, rfl, b, C, dy, flds s, .str (wd s.g), rfl, hb, A.cl, A.nw, rfl, rfl, _, ne iW, ?_⟩
        by_cases c2 : r.g = s.g
        · rw [decide_eq_true c2]
          refine iteF' ⟨_, rfl, a, C, dx, flds r, oV r.t, rfl, ha, A.cl, A.nt, rfl, _, rfl, b, C, dy, flds s, oV s.t, rfl, hb, A.cl, A.nt, rfl, sO _ _, _, ne (iO _ _), ?_⟩
          by_cases c3 : r.t = s.t
          · rw [decide_eq_true c3]
            refine iteF' ?_
            refine ⟨_, rfl, a, C, dx, flds r, .int r.b, rfl, ha, A.cl, A.nb, rfl, _, rfl, b, C, dy, flds s, .int s.b, rfl, hb, A.cl, A.nb, rfl, rfl, _, eq iB, ?_⟩
            by_cases c4 : r.b = s.b
            · rw [decide_eq_true c4]
              refine iteT' ⟨_, rfl, a, C, dx, flds r, oV r.e, rfl, ha, A.cl, A.ne, rfl, _, rfl, b, C, dy, flds s, oV s.e, rfl, hb, A.cl, A.ne, rfl, sO _ _, ?_⟩
              rw [eq (iO r.e s.e)]
              have e : decide (r = s) = decide (r.e = s.e) := by
                by_cases c5 : r.e = s.e
                · rw [decide_eq_true c5]
                  refine decide_eq_true ?_
                  obtain ⟨x1, x2, x3, x4, x5⟩ := r
                  obtain ⟨y1, y2, y3, y4, y5⟩ := s
                  cases c1; cases c2; cases c3; cases c4; cases c5
                  rfl
                · rw [decide_eq_false c5]
                  exact decide_eq_false fun z => c5 (by rw [z])
              rw [← e]
              exact q
            · rw [decide_eq_false c4]
              exact iteF' (off fun z => c4 (by rw [z]))
          · rw [decide_eq_false c3]
            exact iteT' (off fun z => c3 (by rw [z]))
        · rw [decide_eq_false c2]
          exact iteT' (iteT' (off fun z => c2 (by rw [z])))
      · rw [decide_eq_false c1]
        exact iteT' (iteT' (off fun z => c1 (by rw [z])))
    · exact ⟨y, rfl, y, .ref C, _, _, false, rfl, .own _, ty, kn, false, rfl, iteT' q⟩
end
end K37
end

section
set_option Elab.async false
set_option linter.all false
set_option maxRecDepth 100000
set_option maxHeartbeats 4000000
/-! a history is looked at -/
namespace K37
open PySem L2 KZ
abbrev sNeed : Stmt := top 17
structure B1 (mg : Str → Option Value) : Prop extends B0 mg where
  range : mg "range" = none
  max : mg "max" = none
  min : mg "min" = none
  sorted : mg "sorted" = none
  repr : mg "repr" = none
  abs : mg "abs" = none
  enum : mg "enumerate" = none
section
variable {X : Cx}
theorem call_isiQ (K : PySem.W.Frag) (h : X.K = K := by rfl) : CallR X (.builtin "isinstance") (rIsi K) := by subst h; exact call_isi
theorem ix_seqK (K : PySem.W.Frag) (h : X.K = K := by rfl) : IxR X (rIx K) := by subst h; exact ix_seq
theorem pe_fldK {e : Expr} {f : Str} {pos : Pos} {ta : TE} (K : PySem.W.Frag) (he : PE X e ta) (hb : attributeBase e f X.env (eval e X.env) = eval e X.env) (h : X.K = K := by rfl) : PE X (.Attribute e f pos) (tFld K ta f) := by
  subst h
  exact pe_fld he hb
end
theorem at_nat {α : Type} {xs : List α} {i : Nat} {v : α} (h : xs[i]? = some v) : atI xs (i : Int) = some v := by
  have hl := (List.getElem?_eq_some_iff.mp h).1
  unfold atI ixN
  rw [if_pos (by omega), if_pos (by omega)]
  exact h
/-- a list or a tuple -/
def Sq (K : PySem.W.Frag) (H : Hp) (a : Addr) (xs : List V) : Prop := SqL K H a xs ∨ SqT K H a xs
theorem Sq.mono {K : PySem.W.Frag} {H H' : Hp} {a : Addr} {xs : List V} (s : Same H H') (h : Sq K H a xs) : Sq K H' a xs := h.elim (fun z => .inl (s.seq z)) fun z => .inr (sqT_mono s z)
def iSq (K : PySem.W.Frag) (tl : TE) : TI := fun σ H R => tl σ H fun x H1 => ∃ a xs, x = .ref a ∧ Sq K H1 a xs ∧ ∀ J G, Walk J xs.length G (YAt xs) → (∀ H, Same H1 H → G H) → R J H1
theorem pi_sq {X : Cx} {tg l : Expr} {tl : TE} (hl : PE X l tl) : PI X tg l (iSq X.K tl) := by
  refine ⟨fun pins s σ H R I h => thn (hl.run pins s σ H _ I h) fun v s1 ⟨x, H1, I1, r1, q1⟩ => ?_⟩
  obtain ⟨a, xs, e, sq, k⟩ := q1
  subst e
  cases (show v = Value.ref a from r1)
  rcases sq with sq | sq
  · obtain ⟨its, _, p, _⟩ := I1.list sq
    exact wpAny_pyIter_list p.isList (pi_one (tk := s1.toks) I1 _ (turn_list a _) ⟨_, Heap.get?_push_size _ rfl, rfl, rfl⟩ (k _ _ walk_list fun H s => s.seq sq))
  · obtain ⟨its, _, p, _⟩ := I1.tuple sq
    exact wpAny_pyIter_tuple p (pi_one (tk := s1.toks) I1 _ (turn_tuple a _) ⟨_, Heap.get?_push_size _ rfl, rfl, rfl⟩ (k _ _ walk_tup fun H s => sqT_mono s sq))
theorem Sq.len {K : PySem.W.Frag} {H : Hp} {a : Addr} {xs : List V} (h : Sq K H a xs) : LenV K (.ref a) H xs.length := h.elim (fun z => .inl ⟨_, z, rfl⟩) fun z => .inr ⟨_, z, rfl⟩
theorem Sq.ix {K : PySem.W.Frag} {H : Hp} {a : Addr} {xs : List V} {i : Int} {v : V} {Q : VK} (h : Sq K H a xs) (e : atI xs i = some v) (q : Q v H) : rIx K (.ref a) (.int i) H Q := h.elim (fun z => .inl ⟨a, xs, i, v, rfl, rfl, z, e, q⟩) fun z => .inr (.inl ⟨a, xs, i, v, rfl, rfl, z, e, q⟩)
theorem Sq.ty {K : PySem.W.Frag} {H : Hp} {a : Addr} {xs : List V} (h : Sq K H a xs) : TyX K H (.ref a) (.type "list") ∨ TyX K H (.ref a) (.type "tuple") := by
  rcases h with ((q | ⟨o, q⟩) | ⟨o, its, n, q, c, _⟩) | ((q | ⟨o, q⟩) | ⟨o, its, n, q, c, _⟩)
  · exact .inl (.base (.lst q))
  · exact .inl (.base (.frz q))
  · exact .inl (.kList q c)
  · exact .inr (.base (.tup q))
  · exact .inr (.fTuple q)
  · exact .inr (.kTuple q c)
/-- neither a list nor a tuple -/
def NoSq (K : PySem.W.Frag) (H : Hp) (v : V) : Prop := ∃ t, TyX K H v t ∧ PySem.W.kitOne K t (.type "list") = some false ∧ PySem.W.kitOne K t (.type "tuple") = some false
/-- at these addresses stand the asks of these rows -/
def AsksAt (C : Addr) (H : Hp) (ps : List Addr) (rs : List Row) : Prop := ps.length = rs.length ∧ ∀ (i : Nat) p r, ps[i]? = some p → rs[i]? = some r → AskAt C H p r
/-- the asks of the rows, in a list or a tuple -/
structure Hist (K : PySem.W.Frag) (C : Addr) (H : Hp) (a : Addr) (rs : List Row) : Prop where
  ex : ∃ ps : List Addr, Sq K H a (ps.map V.ref) ∧ AsksAt C H ps rs
theorem Hist.mono {K : PySem.W.Frag} {C : Addr} {H H' : Hp} {a : Addr} {rs : List Row} (s : Same H H') (h : Hist K C H a rs) : Hist K C H' a rs := by
  obtain ⟨ps, h1, h2, h3⟩ := h
  exact ⟨ps, Sq.mono s h1, h2, fun i p r e1 e2 => (h3 i p r e1 e2).mono s⟩
/-- whether the i-th tells what it may not -/
def badAt (rs : List Row) (i : Nat) : Bool := match rs[i]?.bind (·.t) with
  | none => false
  | some j => decide ((rs.length : Int) ≤ j) || (match rs[j.toNat]? with
    | some r => r.g
    | none => true)
def firstBad (rs : List Row) : Option Nat := (List.range rs.length).find? (badAt rs)
def spNeed (K : PySem.W.Frag) (C cB cT : Addr) : Sp := fun vs H Q E => ∃ v, vs = [v] ∧ ((NoSq K H v ∧ OutF cB [("part", .str "asks")] H E) ∨
  (∃ a xs, ∃ g : V → Bool, v = .ref a ∧ Sq K H a xs ∧ xs.length ≤ 2000 ∧ (∀ x ∈ xs, ∃ t, TyX K H x t ∧ PySem.W.kitOne K t (.ref C) = some (g x)) ∧ (∃ x ∈ xs, g x = false) ∧ OutF cB [("part", .str "asks")] H E) ∨
  ∃ a rs, v = .ref a ∧ Hist K C H a rs ∧ rs.length ≤ 2000 ∧ (∀ r ∈ rs, r.Ok) ∧ (1000 < rs.length → OutF cT [("most", .int 1000), ("what", .str "asks")] H E) ∧
    (rs.length ≤ 1000 → ∀ i, firstBad rs = some i → OutF cB [("part", .int i)] H E) ∧ (rs.length ≤ 1000 → firstBad rs = none → ∀ H', Same H H' → Q .non H'))
section
variable {P : Program} {w : World} {K : PySem.W.Frag} {mg : Str → Option Value} {base : Heap} {cB cT C : Addr}
theorem raise_int {σ : L2.St} {H : Hp} {E : XK} {p : Int} (q : OutF cB [("part", .int p)] H E) : tMkO cB (spE1 K cB "part") [] (tCons (tC (.int p)) tNil) σ H fun cls d H' => E cls d H' := by
  refine ⟨(show 1 ≤ 1000 by decide), fun a ha => ⟨a, .int p, .int p, fun _ => none, rfl, trivial, (fun _ _ z => nomatch z), (fun _ _ _ z => nomatch z), rfl, .int _, upd_same, ?_⟩⟩
  intro v' G' dx H' s1 nf' bs ga gd hdx ne s' kp ea ed dv'
  cases dv'
  refine ⟨rfl, dx, _, ea, ed, by rw [upd_ne ne] at hdx; exact hdx, q dx _ (fun b o e => ?_) upd_same⟩
  have hb : b ≠ a := ne_of_none e ha
  rw [upd_ne ne] at hdx
  rw [upd_ne (ne_of_none e hdx), del_ne hb]
  exact kp _ _ hb (by rw [upd_ne hb]; exact e)
theorem raise_many {σ : L2.St} {H : Hp} {E : XK} {x : Str} {p : Int} (q : OutF cT [("most", .int p), ("what", .str x)] H E) : tMkO cT (spE2 K cT "what" "most") [] (tCons (tC (.str x)) (tCons (tC (.int p)) tNil)) σ H fun cls d H' => E cls d H' := by
  refine ⟨(show 2 ≤ 1000 by decide), fun a ha => ⟨a, .str x, .int p, .str x, .int p, fun _ => none, rfl, trivial, trivial, (fun _ _ z => nomatch z), (fun _ _ _ z => nomatch z), rfl, .str _, .int _, upd_same, ?_⟩⟩
  intro v' u' G' dx H' s1 nf' bs ga gd hdx ne s' kp ea ed dv' du'
  cases dv'
  cases du'
  refine ⟨rfl, dx, _, ea, ed, by rw [upd_ne ne] at hdx; exact hdx, q dx _ (fun b o e => ?_) upd_same⟩
  have hb : b ≠ a := ne_of_none e ha
  rw [upd_ne ne] at hdx
  rw [upd_ne (ne_of_none e hdx), del_ne hb]
  exact kp _ _ hb (by rw [upd_ne hb]; exact e)
theorem tyOf_mono {H H' : Hp} {v : V} {t : Value} (s : Same H H') (h : TyOf K H v t) : TyOf K H' v t := by
  cases h with
  | non => exact .non
  | bl x => exact .bl x
  | int i => exact .int i
  | str x => exact .str x
  | flt x => exact .flt x
  | lst e => exact .lst (s _ _ e)
  | frz e => exact .frz (s _ _ e)
  | tup e => exact .tup (s _ _ e)
  | dK e => exact .dK (s _ _ e)
  | dT e => exact .dT (s _ _ e)
  | ins e cl ha hn htk hm => exact .ins (s _ _ e) cl ha hn htk hm
theorem tyX_mono {H H' : Hp} {v : V} {t : Value} (s : Same H H') (h : TyX K H v t) : TyX K H' v t := by
  cases h with
  | base h => exact .base (tyOf_mono s h)
  | byt b => exact .byt b
  | set e => exact .set (s _ _ e)
  | kList e c => exact .kList e c
  | kTuple e c => exact .kTuple e c
  | kDict e c => exact .kDict e c
  | fTuple e => exact .fTuple (s _ _ e)
  | fDict e => exact .fDict (s _ _ e)
theorem any2 {t : Value} (k1 : PySem.W.kitOne K t (.type "list") = some false) (k2 : PySem.W.kitOne K t (.type "tuple") = some false) : PySem.W.kitAny K t [.type "list", .type "tuple"] = some false := by
  simp only [PySem.W.kitAny, k1, k2]
theorem anyS {H : Hp} {a : Addr} {xs : List V} (h : Sq K H a xs) : ∃ t, TyX K H (.ref a) t ∧ PySem.W.kitAny K t [.type "list", .type "tuple"] = some true := by
  have k1 : PySem.W.kitOne K (.type "list") (.type "list") = some true := kit_ty (by decide +kernel)
  have k2 : PySem.W.kitOne K (.type "tuple") (.type "list") = some false := kit_ty (by decide +kernel)
  have k3 : PySem.W.kitOne K (.type "tuple") (.type "tuple") = some true := kit_ty (by decide +kernel)
  rcases h.ty with z | z
  · exact ⟨_, z, by simp only [PySem.W.kitAny, k1]⟩
  · exact ⟨_, z, by simp only [PySem.W.kitAny, k2, k3]⟩
theorem Hist.sq {H : Hp} {a : Addr} {rs : List Row} (h : Hist K C H a rs) : ∃ ps : List Addr, Sq K H a (ps.map V.ref) ∧ AsksAt C H ps rs := h.ex
theorem scNeed : FnScope ["asks", "ask", "at", "told"] ["asks"] (defScope sNeed) := ⟨rfl, rfl, rfl, by decide +kernel, rfl, by decide +kernel, by decide +kernel⟩
theorem ok_need {f : Addr} {fd : FuncData} (F : Fun K "need_asks" "need_asks" sNeed f fd) (A : AskC K mg C) (T : B1 mg) (hm : ∃ t, mg "MOST_ASKS" = some (.int 1000 t)) (M : Mk1 P w K mg base "BadAsk" cB "part" "part") (M2 : Mk2 P w K mg base "TooMany" cT "what" "most" "what" "most") :
    FnOk P w K mg base (L2.CX P w) 7 f fd ["asks"] (spNeed K C cB cT) := by
  obtain ⟨fR, dR, ER, FR, bR, _⟩ := M.has
  obtain ⟨fR2, dR2, ER2, FR2, bR2, _⟩ := M2.has
  obtain ⟨tk, hm⟩ := hm
  refine F.okX scNeed (fun vs H Q E h => ?_) (fun cdv A' outer s H vs Q E hr h => ?_)
  · obtain ⟨v, rfl, _⟩ := h
    rfl
  · obtain ⟨v, rfl, h⟩ := h
    refine ⟨_, (pss_cons (ps_if (PW.pt (pw_or (pt_not (pt_val (pe_callB call_isiT (by rfl) T.isi (by decide +kernel) (pa_cons (pv 0) (pa_cons (pe_tup (pa_cons (pe_bltn (v := .ty "list") (by rfl) T.list (by decide +kernel) rfl) (pa_cons (pe_bltn (v := .ty "tuple") (by rfl) T.tuple (by decide +kernel) rfl) pa_nil))) pa_nil))))) (pw_or1 (pt_not (pt_val (pe_callB (cr_all rfl) (by rfl) T.all (by decide +kernel) (pa_cons (pe_lc (own := [("ask", 1)]) (g := gName 1) (tt := tYes) (by rfl) scNeed.nd (pi_sq (pv 0)) (blkOk_by (own := [("ask", 1)]) (N := ["asks", "ask", "at", "told"]) (sc := defScope sNeed) (by decide +kernel)) (fun _ _ _ _ _ => pg_name (i := 1) scNeed.nd rfl (Or.inl rfl)) (fun _ _ _ _ _ => pts_nil) (fun _ _ _ _ _ => pe_callB (call_isiQ K) (by rfl) T.isi (by decide +kernel) (pa_cons (pv 1) (pa_cons (pe_glob (v := .ref C) (by rfl) A.mg rfl) pa_nil)))) pa_nil)))))))
(pss_one (ps_raise rfl (takes_of rfl rfl rfl rfl) (pmk_oex ER.ox ER.ini ER.ti FR hr bR .nil pass0 (by rfl) ER.gl (pa_cons pe_str pa_nil))))
pss_nil)
(pss_cons (ps_if (pt_cmpR op_gt (pe_callB call_len (by rfl) T.len PySem.boot_len (pa_cons (pv 0) pa_nil)) (pe_glob (v := .int 1000) (by rfl) hm ⟨_, rfl⟩) (nomark _))
(pss_one (ps_raise rfl (takes_of rfl rfl rfl rfl) (pmk_oex ER2.ox ER2.ini ER2.ti FR2 hr bR2 .nil pass0 (by rfl) ER2.gl (pa_cons pe_str (pa_cons (pe_glob (v := .int 1000) (by rfl) hm ⟨_, rfl⟩) pa_nil)))))
pss_nil)
(pss_one (ps_for (passes_of rfl) rfl (pi_range1 (by rfl) T.range (pa_cons (pe_callB call_len (by rfl) T.len PySem.boot_len (pa_cons (pv 0) pa_nil)) pa_nil)) (pg_name (i := 2) scNeed.nd rfl (Or.inl rfl))
(pss_cons (ps_set (i := 3) scNeed.nd rfl (Or.inl rfl) (pe_fldK K (pe_ix (ix_seqK K) (pv 0) (pv 2) (fun _ _ => rfl)) rfl))
(pss_one (ps_if (PW.pt (pw_and (pt_cmpR op_notN (pv 3) pe_non (nomark _)) (pw_and1 (PW.pt (pw_or (pt_cmpR op_ge (pv 3) (pe_callB call_len (by rfl) T.len PySem.boot_len (pa_cons (pv 0) pa_nil)) (nomark _)) (pw_or1 (pt_cmpR op_ne (pe_fldK K (pe_ix (ix_seqK K) (pv 0) (pv 3) (fun _ _ => rfl)) rfl) pe_str (nomark _))))))))
(pss_one (ps_raise rfl (takes_of rfl rfl rfl rfl) (pmk_oex ER.ox ER.ini ER.ti FR hr bR .nil pass0 (by rfl) ER.gl (pa_cons (pv 2) pa_nil))))
pss_nil))))))), ?_⟩
    rcases h with ⟨⟨t, ty, k1, k2⟩, q⟩ | h
    · exact ⟨v, rfl, (by show 2 ≤ sizeLine; decide), fun tp htp => ⟨v, tp, [.ty "list", .ty "tuple"], t, [.type "list", .type "tuple"], false, rfl, upd_same, .cons (.ty _) (.cons (.ty _) .nil), tyX_mono (same_new htp) ty, any2 k1 k2, false, rfl, iteT' (iteT' (raise_str (q.at (same_new htp))))⟩⟩
    obtain ⟨a, xs, g, rfl, sq, hl, hg, rest⟩ : ∃ a xs, ∃ g : V → Bool, v = .ref a ∧ Sq K H a xs ∧ xs.length ≤ 2000 ∧ (∀ x ∈ xs, ∃ t, TyX K H x t ∧ PySem.W.kitOne K t (.ref C) = some (g x)) ∧
        (((xs.map g).all id = false ∧ OutF cB [("part", .str "asks")] H E) ∨ ((xs.map g).all id = true ∧ ∃ rs ps, xs = ps.map V.ref ∧ AsksAt C H ps rs ∧ (∀ r ∈ rs, r.Ok) ∧ (1000 < rs.length → OutF cT [("most", .int 1000), ("what", .str "asks")] H E) ∧
          (rs.length ≤ 1000 → ∀ i, firstBad rs = some i → OutF cB [("part", .int i)] H E) ∧ (rs.length ≤ 1000 → firstBad rs = none → ∀ H', Same H H' → Q .non H'))) := by
      rcases h with ⟨a, xs, g, rfl, sq, hl, hx, ⟨z, hz, nz⟩, q⟩ | ⟨a, rs, rfl, hh, hl, ok, q1, q2, q3⟩
      · exact ⟨a, xs, g, rfl, sq, hl, hx, .inl ⟨List.all_eq_false.mpr ⟨g z, List.mem_map.mpr ⟨z, hz, rfl⟩, by rw [nz]; exact fun k => nomatch k⟩, q⟩⟩
      · obtain ⟨ps, h1, h2⟩ := hh.sq
        refine ⟨a, ps.map V.ref, fun _ => true, rfl, h1, by rw [List.length_map, h2.1]; exact hl, fun x m => ?_, .inr ⟨by simp, rs, ps, rfl, h2, ok, q1, q2, q3⟩⟩
        obtain ⟨p, mp, rfl⟩ := List.mem_map.mp m
        obtain ⟨i, hi, e⟩ := List.mem_iff_getElem.mp mp
        have hi2 : i < rs.length := by rw [← h2.1]; exact hi
        obtain ⟨dx, e2⟩ := h2.2 i p rs[i] (by rw [← e]; exact List.getElem?_eq_getElem hi) (List.getElem?_eq_getElem hi2)
        exact ⟨_, .base (A.ty H p dx _ e2), A.me⟩
    refine ⟨.ref a, rfl, (by show 2 ≤ sizeLine; decide), fun tp htp => ?_⟩
    have s1 := same_new (o := .tup [V.ty "list", V.ty "tuple"]) htp
    have sq1 := Sq.mono s1 sq
    obtain ⟨t, ty, ka⟩ := anyS sq1
    refine ⟨.ref a, tp, [.ty "list", .ty "tuple"], t, [.type "list", .type "tuple"], true, rfl, upd_same, .cons (.ty _) (.cons (.ty _) .nil), ty, ka, true, rfl, iteF' ?_⟩
    have hg1 : ∀ x ∈ xs, ∃ t, TyX K (upd H tp (.tup [V.ty "list", V.ty "tuple"])) x t ∧ PySem.W.kitOne K t (.ref C) = some (g x) := fun x m => let ⟨t, h1, h2⟩ := hg x m; ⟨t, tyX_mono s1 h1, h2⟩
    generalize upd H tp (.tup [V.ty "list", V.ty "tuple"]) = H1 at s1 sq1 hg1 ⊢
    refine ⟨.ref a, rfl, a, xs, rfl, sq1, fun J G wk hG D hD => lc_it wk (fun i H' => H' = upd H1 D (.lst ((xs.take i).map fun x => V.bl (g x)))) (by simp) (fun i H' _ e => hG _ (by rw [e]; exact same_new hD)) ?_ ?_⟩
    · rintro i x H2 H3 hi rfl ⟨rfl, hx⟩
      obtain ⟨t, ty, k⟩ := hg1 x (List.mem_of_getElem? hx)
      refine ⟨rfl, yes_go ⟨x, rfl, x, .ref C, t, .ref C, g x, rfl, .own _, tyX_mono (same_new hD) ty, k, _, upd_same, ?_, ?_⟩⟩
      · rw [List.length_map, List.length_take]
        exact Nat.lt_of_le_of_lt (Nat.min_le_right _ _) (Nat.lt_of_le_of_lt hl (by decide))
      · rw [upd_upd, List.take_add_one, hx, List.map_append]
        rfl
    · rintro H2 rfl
      refine ⟨D, xs.map g, rfl, SqL.of (by rw [upd_same, List.take_of_length_le (Nat.le_refl _), List.map_map]; rfl), (xs.map g).all id, rfl, ?_⟩
      have s2 := s1.trans (same_new (o := .lst ((xs.take xs.length).map fun x => V.bl (g x))) hD)
      have sq2 := Sq.mono (same_new (o := .lst ((xs.take xs.length).map fun x => V.bl (g x))) hD) sq1
      generalize upd H1 D _ = H2 at s2 sq2 ⊢
      rcases rest with ⟨af, q⟩ | ⟨at_, rs, ps, rfl, h2, ok, q1, q2, q3⟩
      · rw [af]
        exact iteT' (raise_str (q.at s2))
      · rw [at_]
        have nl : rs.length = (ps.map V.ref).length := by rw [List.length_map, h2.1]
        refine iteF' ⟨.ref a, rfl, .ref a, (ps.map V.ref).length, rfl, sq2.len, ((ps.map V.ref).length : Int), 1000, rfl, rfl, decide ((1000 : Int) < ((ps.map V.ref).length : Int)), rfl, ?_⟩
        by_cases big : 1000 < rs.length
        · rw [decide_eq_true (show (1000 : Int) < ((ps.map V.ref).length : Int) by omega)]
          exact iteT' (raise_many ((q1 big).at s2))
        · rw [decide_eq_false (show ¬ (1000 : Int) < ((ps.map V.ref).length : Int) by omega)]
          refine iteF' ?_
          have le : rs.length ≤ 1000 := by omega
          refine ⟨.ref a, rfl, .ref a, (ps.map V.ref).length, rfl, sq2.len, ((ps.map V.ref).length : Nat), rfl, by omega, by rw [← nl]; omega, for_range (n := (ps.map V.ref).length) (fun i σ H' => H' = H2 ∧ ∃ x y, σ = [some (.ref a), none, x, y] ∧ ∀ j, j < i → badAt rs j = false) ⟨rfl, none, none, rfl, fun j hj => by omega⟩ ?_ ?_⟩
          · rintro i σ H3 hi ⟨rfl, x, y, rfl, old⟩
            have hi2 : i < rs.length := by omega
            have hip : i < ps.length := by rw [List.length_map] at hi; exact hi
            obtain ⟨dx, ea⟩ := (h2.2 i ps[i] rs[i] (List.getElem?_eq_getElem hip) (List.getElem?_eq_getElem hi2)).mono s2
            have at1 : atI (ps.map V.ref) (0 + (i : Int)) = some (.ref ps[i]) := by
              rw [Int.zero_add]
              exact at_nat (by rw [List.getElem?_map, List.getElem?_eq_getElem hip]; rfl)
            refine ⟨.ref a, rfl, .int (0 + (i : Int)), rfl, Sq.ix sq2 at1 ⟨ps[i], C, dx, flds rs[i], oV rs[i].t, rfl, ea, A.cl, A.nt, rfl, ?_⟩⟩
            have bd : badAt rs i = (match rs[i].t with
              | none => false
              | some j => decide ((rs.length : Int) ≤ j) || (match rs[j.toNat]? with
                | some r => r.g
                | none => true)) := by
              unfold badAt
              rw [List.getElem?_eq_getElem hi2]
              rfl
            have hit : badAt rs i = true → firstBad rs = some i := fun z => by
              unfold firstBad
              rw [List.find?_range_eq_some]
              exact ⟨z, by simpa using hi2, fun j hj => by rw [old j hj]; rfl⟩
            have out : badAt rs i = true → OutF cB [("part", .int (0 + (i : Int)))] H3 E := fun z => by
              rw [Int.zero_add]
              exact (q2 le i (hit z)).at s2
            have on : badAt rs i = false → ∀ j, j < i + 1 → badAt rs j = false := fun z j hj => by
              by_cases e : j = i
              · rw [e]; exact z
              · exact old j (by omega)
            cases ht : rs[i].t with
            | none =>
              rw [ht] at bd
              dsimp only at bd
              exact ⟨.non, rfl, rfl, false, rfl, iteF' (iteF' ⟨rfl, _, _, rfl, on bd⟩)⟩
            | some j =>
              rw [ht] at bd
              dsimp only at bd
              obtain ⟨n, rfl⟩ : ∃ n : Nat, j = (n : Int) := Int.eq_ofNat_of_zero_le ((ok rs[i] (List.getElem_mem hi2)).tg j ht).2.2
              have bd : badAt rs i = (decide ((rs.length : Int) ≤ (n : Int)) || (match rs[n]? with
                | some r => r.g
                | none => true)) := bd
              refine ⟨.int n, rfl, rfl, true, rfl, iteT' ⟨.int n, rfl, .ref a, rfl, .ref a, (ps.map V.ref).length, rfl, sq2.len, (n : Int), ((ps.map V.ref).length : Int), rfl, rfl, decide (((ps.map V.ref).length : Int) ≤ (n : Int)), rfl, ?_⟩⟩
              rw [← nl]
              by_cases far : (rs.length : Int) ≤ (n : Int)
              · rw [decide_eq_true far] at bd ⊢
                exact iteT' (iteT' ⟨_, rfl, raise_int (σ := []) (out (by rw [bd]; rfl))⟩)
              · rw [decide_eq_false far] at bd ⊢
                have jl : n < rs.length := by omega
                have jp : n < ps.length := by rw [h2.1]; exact jl
                obtain ⟨dy, ej⟩ := (h2.2 n ps[n] rs[n] (List.getElem?_eq_getElem jp) (List.getElem?_eq_getElem jl)).mono s2
                have at2 : atI (ps.map V.ref) (n : Int) = some (.ref ps[n]) := at_nat (by rw [List.getElem?_map, List.getElem?_eq_getElem jp]; rfl)
                rw [List.getElem?_eq_getElem jl] at bd
                have bd : badAt rs i = rs[n].g := bd
                refine iteF' ⟨.ref a, rfl, .int n, rfl, Sq.ix sq2 at2 ⟨ps[n], C, dy, flds rs[n], .str (wd rs[n].g), rfl, ej, A.cl, A.nw, rfl, rfl, rs[n].g, ?_, ?_⟩⟩
                · cases rs[n].g <;> decide +kernel
                · cases hg : rs[n].g with
                  | true => exact iteT' ⟨_, rfl, raise_int (σ := []) (out (bd.trans hg))⟩
                  | false => exact iteF' ⟨rfl, _, _, rfl, on (bd.trans hg)⟩
          · rintro σ H3 ⟨rfl, x, y, rfl, old⟩
            refine q3 le ?_ _ s2
            unfold firstBad
            rw [List.find?_range_eq_none]
            exact fun j hj => by rw [old j (by omega)]; rfl
end
end K37
end

section
set_option Elab.async false
set_option linter.all false
set_option maxRecDepth 100000
set_option maxHeartbeats 4000000
/-! the asks that play a part -/
namespace K37
open PySem L2 KZ
abbrev sTold : Stmt := top 18
abbrev sParts : Stmt := top 19

def tNInP (P : Program) (w : World) (ty td : TE) : TE := fun σ H Q => ty σ H fun y H1 => td σ H1 fun x H2 => ∃ a kvs k, x = .ref a ∧ Rd H2 a (DN P w a kvs) ∧ y = nV k ∧ Q (.bl (valV kvs k).isSome) H2
theorem pc_ninK {X : Cx} {i o : Expr} {ty td : TE} (P : Program) (w : World) (hi : PE X i ty) (ho : PE X o td) (hP : X.prog = P := by rfl) (hw : X.w = w := by rfl) : PC X .In i o (tNInP P w ty td) := by
  subst hP hw
  exact pc_nin hi ho
/-- a walk that fills such a dict -/
theorem dn_it {X : Cx} {J : It} {n : Nat} {Gd : Hp → Prop} {Y : Nat → Hp → V → Hp → Prop} (wk : Walk J n Gd Y) {g : TG} {tt : TT} {tk tv : TE} {vs : List Nat} {σ : L2.St} {H1 : Hp} {D : Addr} {Qd : Hp → Prop} (Pv : Nat → Hp → Prop) (h0 : Pv 0 (upd H1 D (DN X.prog X.w D []))) (hG : ∀ i H, i ≤ n → Pv i H → Gd H)
    (hs : ∀ i x H H', i < n → Pv i H → Y i H x H' → g x (wipe σ vs) H' fun σ2 H2 => wipe σ2 vs = wipe σ vs ∧ tNTurn X D tt tk tv (Pv (i + 1)) σ2 H2) (hd : ∀ H, Pv n H → Qd H) :
    ∃ W : Nat → Nat → Hp → Prop, (∃ m, W 0 m (upd H1 D (DN X.prog X.w D []))) ∧ ∀ i m H, W i m H → (J.stop i H ∧ Qd H) ∨
      (J.go i H ∧ ∃ Nx : Hp → Prop, (∀ H', Nx H' → ∃ m', m' < m ∧ W (i + 1) m' H') ∧ ∀ x H', J.yld i H x H' → g x (wipe σ vs) H' fun σ2 H2 => wipe σ2 vs = wipe σ vs ∧ tNTurn X D tt tk tv Nx σ2 H2) := by
  refine ⟨fun i m H => m = n - i ∧ i ≤ n ∧ Pv i H, ⟨n, by simp, Nat.zero_le _, h0⟩, ?_⟩
  rintro i m H ⟨rfl, hi, p⟩
  have q := hG i H hi p
  by_cases hlt : i < n
  · exact .inr ⟨wk.goes i H hlt q, Pv (i + 1), fun H' p' => ⟨n - (i + 1), by omega, rfl, hlt, p'⟩, fun x H' y => hs i x H H' hlt p (wk.yields i H x H' hlt q y)⟩
  · have e : i = n := by omega
    subst e
    exact .inl ⟨wk.stops H q, hd H p⟩
def nk : Option Int → NK
  | none => none
  | some i => some (.inl i)
theorem nk_inj {o u : Option Int} (h : nk o = nk u) : o = u := by
  cases o <;> cases u <;> first | rfl | (cases h; done) | (cases h; rfl)
theorem nk_v (o : Option Int) : nV (nk o) = oV o := by cases o <;> rfl
/-- a get that has ended -/
def tells (r : Row) : Bool := r.g && r.e.isSome
def toldKvs (rs : List Row) : List (NK × V) := rs.foldl (fun kvs r => if tells r = true then putK kvs (nk r.t) (.bl true) else kvs) []
def isTold (rs : List Row) (o : Option Int) : Bool := rs.any fun r => tells r && decide (r.t = o)
theorem told_val : ∀ (rs : List Row) (kvs : List (NK × V)) (o : Option Int), (valV (rs.foldl (fun kvs r => if tells r = true then putK kvs (nk r.t) (.bl true) else kvs) kvs) (nk o)).isSome = ((valV kvs (nk o)).isSome || isTold rs o)
  | [], kvs, o => by simp [isTold]
  | r :: rs, kvs, o => by
    rw [List.foldl_cons, told_val rs]
    have e : isTold (r :: rs) o = (tells r && decide (r.t = o) || isTold rs o) := rfl
    rw [e]
    cases t : tells r with
    | false => simp
    | true =>
      rw [if_pos rfl, valV_put]
      by_cases h : r.t = o
      · rw [if_pos (by rw [h])]
        simp [h]
      · rw [if_neg (fun z => h (nk_inj z).symm)]
        simp [h]
theorem told_in (rs : List Row) (o : Option Int) : (valV (toldKvs rs) (nk o)).isSome = isTold rs o := by
  unfold toldKvs
  rw [told_val]
  simp [valV_nil]
theorem told_len : ∀ (rs : List Row) (kvs : List (NK × V)), (rs.foldl (fun kvs r => if tells r = true then putK kvs (nk r.t) (.bl true) else kvs) kvs).length ≤ kvs.length + rs.length
  | [], kvs => by simp
  | r :: rs, kvs => by
    rw [List.foldl_cons]
    refine Nat.le_trans (told_len rs _) ?_
    rw [List.length_cons]
    split
    · have := length_putK kvs (nk r.t) (.bl true)
      omega
    · omega
def spTold (K : PySem.W.Frag) (P : Program) (w : World) (C : Addr) : Sp := fun vs H Q _ => ∃ a rs, vs = [.ref a] ∧ Hist K C H a rs ∧ rs.length ≤ 2000 ∧ ∀ D, H D = none → Q (.ref D) (upd H D (DN P w D (toldKvs rs)))
section
variable {P : Program} {w : World} {K : PySem.W.Frag} {mg : Str → Option Value} {base : Heap} {C : Addr}
theorem scTold : FnScope ["asks", "ask"] ["asks"] (defScope sTold) := ⟨rfl, rfl, rfl, by decide +kernel, rfl, by decide +kernel, by decide +kernel⟩
theorem ok_told {f : Addr} {fd : FuncData} (F : Fun K "told_lots" "told_lots" sTold f fd) (A : AskC K mg C) (T : B1 mg) : FnOk P w K mg base CX0 1 f fd ["asks"] (spTold K P w C) := by
  refine F.ok scTold (fun vs H Q E h => ?_) (fun cdv A' outer s H vs Q E hr h => ?_)
  · obtain ⟨a, rs, rfl, _⟩ := h
    rfl
  · obtain ⟨a, rs, rfl, hh, hl, q⟩ := h
    refine ⟨_, (pss_one (ps_ret (pe_dcN (own := [("ask", 1)]) (g := gName 1) (by rfl) scTold.nd (pi_sq (pv 0)) (blkOk_by (own := [("ask", 1)]) (N := ["asks", "ask"]) (sc := defScope sTold) (by decide +kernel)) (fun _ _ _ _ _ => pg_name (i := 1) scTold.nd rfl (Or.inl rfl)) (fun _ _ _ _ _ => pts_one (PW.pt (pw_and (pt_cmpR op_eq (pe_fldK K (pv 1) rfl) pe_str (nomark _)) (pw_and1 (pt_cmpR op_notN (pe_fldK K (pv 1) rfl) pe_non (nomark _)))))) (fun _ _ _ _ _ => pe_fldK K (pv 1) rfl) (fun _ _ _ _ _ => pe_bl)))), ?_⟩
    obtain ⟨ps, sq, h2⟩ := hh.sq
    have nl : (ps.map V.ref).length = rs.length := by rw [List.length_map, h2.1]
    refine ⟨.ref a, rfl, a, ps.map V.ref, rfl, sq, fun J G wk hG D hD => dn_it wk (fun i H' => H' = upd H D (DN P w D (toldKvs (rs.take i)))) rfl (fun i H' _ e => hG _ (by rw [e]; exact same_new hD)) ?_ ?_⟩
    · rintro i x H2 H3 hi rfl ⟨rfl, hx⟩
      have hi2 : i < rs.length := by omega
      have hip : i < ps.length := by rw [h2.1]; exact hi2
      have ex : x = .ref ps[i] := by
        rw [List.getElem?_map, List.getElem?_eq_getElem hip] at hx
        exact (Option.some.inj hx).symm
      subst ex
      have tk : toldKvs (rs.take (i + 1)) = if tells rs[i] = true then putK (toldKvs (rs.take i)) (nk rs[i].t) (.bl true) else toldKvs (rs.take i) := by
        unfold toldKvs
        rw [List.take_add_one, List.getElem?_eq_getElem hi2, List.foldl_append]
        rfl
      have kl : (toldKvs (rs.take i)).length < sizeLine := by
        have := told_len (rs.take i) []
        have z : (rs.take i).length ≤ 2000 := by rw [List.length_take]; omega
        exact Nat.lt_of_le_of_lt (Nat.le_trans this (by simpa using z)) (by decide)
      obtain ⟨dx, ea⟩ := ((h2.2 i ps[i] rs[i] (List.getElem?_eq_getElem hip) (List.getElem?_eq_getElem hi2)).mono (same_new (o := DN P w D (toldKvs (rs.take i))) hD))
      generalize rs[i] = r at tk ea
      refine ⟨rfl, ?_⟩
      refine ⟨.ref ps[i], rfl, ps[i], C, dx, flds r, .str (wd r.g), rfl, ea, A.cl, A.nw, rfl, rfl, r.g, (by cases r.g <;> decide +kernel), ?_⟩
      cases hg : r.g with
      | false =>
        refine iteF' (iteF' ?_)
        rw [tk, if_neg (by unfold tells; rw [hg]; exact fun z => nomatch z)]
      | true =>
        refine iteT' ⟨.ref ps[i], rfl, ps[i], C, dx, flds r, oV r.e, rfl, ea, A.cl, A.ne, rfl, rfl, r.e.isSome, (by cases r.e <;> rfl), ?_⟩
        have te : tells r = r.e.isSome := by unfold tells; rw [hg]; rfl
        cases he : r.e.isSome with
        | false =>
          refine iteF' ?_
          rw [tk, if_neg (by rw [te, he]; exact fun z => nomatch z)]
        | true =>
          refine iteT' ⟨.ref ps[i], rfl, ps[i], C, dx, flds r, oV r.t, rfl, ea, A.cl, A.nt, rfl, _, nk r.t, (nk_v r.t).symm, upd_same, kl, ?_⟩
          rw [upd_upd, tk, if_pos (te.trans he)]
          rfl
    · rintro H2 rfl
      rw [nl, List.take_of_length_le (Nat.le_refl _)]
      exact q D hD
end
def isPart (rs : List Row) (i : Nat) : Bool := match rs[i]? with
  | some r => r.e.isSome || (!r.g && isTold rs (some (i : Int)))
  | none => false
def partsOf (rs : List Row) : List Nat := (List.range rs.length).filter (isPart rs)
def nats (l : List Nat) : List V := l.map fun (i : Nat) => V.int (i : Int)
def spParts (K : PySem.W.Frag) (C : Addr) : Sp := fun vs H Q _ => ∃ a rs, vs = [.ref a] ∧ Hist K C H a rs ∧ rs.length ≤ 2000 ∧ ∀ D H', Same H H' → H D = none → H' D = some (.lst (nats (partsOf rs))) → Q (.ref D) H'
section
variable {P : Program} {w : World} {K : PySem.W.Frag} {mg : Str → Option Value} {base : Heap} {fT fN fP C cB cT : Addr} {dT dN dP : FuncData}
theorem scParts : FnScope ["asks", "told", "at"] ["asks"] (defScope sParts) := ⟨rfl, rfl, rfl, by decide +kernel, rfl, by decide +kernel, by decide +kernel⟩
theorem ok_parts_of {f : Addr} {fd : FuncData} (F : Fun K "parts_of" "parts_of" sParts f fd) (A : AskC K mg C) (T : B1 mg) (gT : mg "told_lots" = some (.ref fT)) (FT : Fun K "told_lots" "told_lots" sTold fT dT) (bT : Binds K dT ["asks"] []) :
    FnOk P w K mg base CX0 2 f fd ["asks"] (spParts K C) := by
  have GT : FnOk P w K mg base CX0 1 fT dT ["asks"] (spTold K P w C) := ok_told FT A T
  refine F.ok scParts (fun vs H Q E h => ?_) (fun cdv A' outer s H vs Q E hr h => ?_)
  · obtain ⟨a, rs, rfl, _⟩ := h
    rfl
  · obtain ⟨a, rs, rfl, hh, hl, q⟩ := h
    have hr1 : Room 1 _ := hr.mono (by decide)
    refine ⟨_, (pss_cons (ps_set (i := 1) scParts.nd rfl (Or.inr rfl) (pe_call GT hr1 (by rfl) gT FT.kp bT .nil pass0 (pa_cons (pv 0) pa_nil)))
(pss_one (ps_ret (pe_lc (own := [("at", 2)]) (g := gName 2) (by rfl) scParts.nd (pi_range1 (by rfl) T.range (pa_cons (pe_callB call_len (by rfl) T.len PySem.boot_len (pa_cons (pv 0) pa_nil)) pa_nil)) (blkOk_by (own := [("at", 2)]) (N := ["asks", "told", "at"]) (sc := defScope sParts) (by decide +kernel)) (fun _ _ _ _ _ => pg_name (i := 2) scParts.nd rfl (Or.inl rfl)) (fun _ _ _ _ _ => pts_one (PW.pt (pw_or (pt_cmpR op_notN (pe_fldK K (pe_ix (ix_seqK K) (pv 0) (pv 2) (fun _ _ => rfl)) rfl) pe_non (nomark _)) (pw_or1 (PW.pt (pw_and (pt_cmpR op_eq (pe_fldK K (pe_ix (ix_seqK K) (pv 0) (pv 2) (fun _ _ => rfl)) rfl) pe_str (nomark _)) (pw_and1 (pt_cmp (pc_ninK P w (pv 2) (pv 1)))))))))) (fun _ _ _ _ _ => pv 2))))), ?_⟩
    refine ⟨.ref a, rfl, a, rs, rfl, hh, hl, fun d hd => ?_⟩
    have s1 := same_new (o := DN P w d (toldKvs rs)) hd
    have h1 := hh.mono s1
    have hk : (upd H d (DN P w d (toldKvs rs))) d = some (DN P w d (toldKvs rs)) := upd_same
    generalize upd H d (DN P w d (toldKvs rs)) = H1 at s1 h1 hk ⊢
    obtain ⟨ps, sq, h2⟩ := h1.sq
    have nl : (ps.map V.ref).length = rs.length := by rw [List.length_map, h2.1]
    refine ⟨.ref a, rfl, .ref a, (ps.map V.ref).length, rfl, sq.len, ((ps.map V.ref).length : Nat), rfl, by omega, by rw [nl]; omega, fun D hD => ?_⟩
    rw [Int.toNat_natCast, nl]
    refine lc_it (walk_range (lo := 0) (n := rs.length)) (fun i H' => H' = upd H1 D (.lst (nats ((List.range i).filter (isPart rs))))) rfl (fun _ _ _ _ => True.intro) ?_ ?_
    · rintro i x H2 H3 hi rfl ⟨rfl, rfl⟩
      have hip : i < ps.length := by rw [h2.1]; exact hi
      obtain ⟨dx, ea⟩ := ((h2.2 i ps[i] rs[i] (List.getElem?_eq_getElem hip) (List.getElem?_eq_getElem hi)).mono (same_new (o := .lst (nats ((List.range i).filter (isPart rs)))) hD))
      have sq2 := Sq.mono (same_new (o := .lst (nats ((List.range i).filter (isPart rs)))) hD) sq
      have hk2 := (same_new (o := .lst (nats ((List.range i).filter (isPart rs)))) hD) _ _ hk
      have at1 : atI (ps.map V.ref) (0 + (i : Int)) = some (.ref ps[i]) := by
        rw [Int.zero_add]
        exact at_nat (by rw [List.getElem?_map, List.getElem?_eq_getElem hip]; rfl)
      have ip : isPart rs i = (rs[i].e.isSome || (!rs[i].g && isTold rs (some (i : Int)))) := by
        unfold isPart
        rw [List.getElem?_eq_getElem hi]
      have nx : nats ((List.range (i + 1)).filter (isPart rs)) = if isPart rs i = true then nats ((List.range i).filter (isPart rs)) ++ [V.int (i : Int)] else nats ((List.range i).filter (isPart rs)) := by
        rw [List.range_succ, List.filter_append]
        cases c : isPart rs i with
        | true => rw [if_pos rfl]; simp [nats, c]
        | false => rw [if_neg (by decide)]; simp [c]
      have al : (nats ((List.range i).filter (isPart rs))).length < sizeLine := by
        have : (nats ((List.range i).filter (isPart rs))).length ≤ i := by
          unfold nats
          rw [List.length_map]
          exact Nat.le_trans (List.length_filter_le _ _) (by simp)
        exact Nat.lt_of_le_of_lt this (Nat.lt_of_lt_of_le (Nat.lt_of_lt_of_le hi hl) (by decide))
      have inT : (valV (toldKvs rs) (some (.inl (0 + (i : Int))))).isSome = isTold rs (some (i : Int)) := by
        rw [Int.zero_add]
        exact told_in rs (some (i : Int))
      generalize rs[i] = r at ip ea
      have isY : isPart rs i = true → upd (upd H1 D (.lst (nats ((List.range i).filter (isPart rs))))) D (.lst (nats ((List.range i).filter (isPart rs)) ++ [V.int (0 + (i : Int))])) = upd H1 D (.lst (nats ((List.range (i + 1)).filter (isPart rs)))) := fun z => by
        rw [upd_upd, nx, if_pos z, Int.zero_add]
      have isN : isPart rs i = false → upd H1 D (.lst (nats ((List.range i).filter (isPart rs)))) = upd H1 D (.lst (nats ((List.range (i + 1)).filter (isPart rs)))) := fun z => by
        rw [nx, if_neg (by rw [z]; decide)]
      refine ⟨rfl, ?_⟩
      refine ⟨.ref a, rfl, .int (0 + (i : Int)), rfl, Sq.ix sq2 at1 ⟨ps[i], C, dx, flds r, oV r.e, rfl, ea, A.cl, A.ne, rfl, rfl, r.e.isSome, (by cases r.e <;> rfl), ?_⟩⟩
      cases he : r.e.isSome with
      | true => exact iteT' (iteT' ⟨_, rfl, _, upd_same, al, isY (by rw [ip, he]; rfl)⟩)
      | false =>
        rw [he, Bool.false_or] at ip
        refine iteF' ⟨.ref a, rfl, .int (0 + (i : Int)), rfl, Sq.ix sq2 at1 ⟨ps[i], C, dx, flds r, .str (wd r.g), rfl, ea, A.cl, A.nw, rfl, rfl, !r.g, (by cases r.g <;> decide +kernel), ?_⟩⟩
        cases hg : r.g with
        | true =>
          rw [hg] at ip
          exact iteF' (iteF' (isN ip))
        | false =>
          rw [hg] at ip
          refine iteT' ⟨_, rfl, .ref d, rfl, d, toldKvs rs, some (.inl (0 + (i : Int))), rfl, .inl hk2, rfl, isTold rs (some (i : Int)), by rw [inT], ?_⟩
          cases ht : isTold rs (some (i : Int)) with
          | true => exact iteT' ⟨_, rfl, _, upd_same, al, isY (ip.trans ht)⟩
          | false => exact iteF' (isN (ip.trans ht))
    · rintro H2 rfl
      exact q D _ (s1.trans (same_new hD)) (s1.free hD) upd_same
/-- what refuses a history, or lets it go on -/
def Looked (K : PySem.W.Frag) (C cB cT : Addr) (v : V) (H : Hp) (E : XK) (go : Addr → List Row → Prop) : Prop := (NoSq K H v ∧ OutF cB [("part", .str "asks")] H E) ∨
  (∃ a xs, ∃ g : V → Bool, v = .ref a ∧ Sq K H a xs ∧ xs.length ≤ 2000 ∧ (∀ x ∈ xs, ∃ t, TyX K H x t ∧ PySem.W.kitOne K t (.ref C) = some (g x)) ∧ (∃ x ∈ xs, g x = false) ∧ OutF cB [("part", .str "asks")] H E) ∨
  ∃ a rs, v = .ref a ∧ Hist K C H a rs ∧ rs.length ≤ 2000 ∧ (∀ r ∈ rs, r.Ok) ∧ (1000 < rs.length → OutF cT [("most", .int 1000), ("what", .str "asks")] H E) ∧
    (rs.length ≤ 1000 → ∀ i, firstBad rs = some i → OutF cB [("part", .int i)] H E) ∧ (rs.length ≤ 1000 → firstBad rs = none → go a rs)
def spPartsD (K : PySem.W.Frag) (C cB cT : Addr) : Sp := fun vs H Q E => ∃ v, vs = [v] ∧ Looked K C cB cT v H E fun _ rs => ∀ p H', Same H H' → H' p = some (.tup (nats (partsOf rs))) → Q (.ref p) H'
theorem Looked.dis {v : V} {H : Hp} {E : XK} {R : Hp → Prop} {go : Addr → List Row → Prop} (h : Looked K C cB cT v H E go) (k : ∀ a rs, v = .ref a → Hist K C H a rs → rs.length ≤ 1000 → (∀ r ∈ rs, r.Ok) → firstBad rs = none → go a rs → ∀ H', Same H H' → R H') :
    (NoSq K H v ∧ OutF cB [("part", .str "asks")] H E) ∨
    (∃ a xs, ∃ g : V → Bool, v = .ref a ∧ Sq K H a xs ∧ xs.length ≤ 2000 ∧ (∀ x ∈ xs, ∃ t, TyX K H x t ∧ PySem.W.kitOne K t (.ref C) = some (g x)) ∧ (∃ x ∈ xs, g x = false) ∧ OutF cB [("part", .str "asks")] H E) ∨
    ∃ a rs, v = .ref a ∧ Hist K C H a rs ∧ rs.length ≤ 2000 ∧ (∀ r ∈ rs, r.Ok) ∧ (1000 < rs.length → OutF cT [("most", .int 1000), ("what", .str "asks")] H E) ∧
      (rs.length ≤ 1000 → ∀ i, firstBad rs = some i → OutF cB [("part", .int i)] H E) ∧ (rs.length ≤ 1000 → firstBad rs = none → ∀ H', Same H H' → R H') := by
  rcases h with h | h | ⟨a, rs, e, hh, hl, ok, q1, q2, q3⟩
  · exact .inl h
  · exact .inr (.inl h)
  · exact .inr (.inr ⟨a, rs, e, hh, hl, ok, q1, q2, fun l z => k a rs e hh l ok z (q3 l z)⟩)
end
end K37
end

section
set_option Elab.async false
set_option linter.all false
set_option maxRecDepth 100000
set_option maxHeartbeats 4000000
/-! zones -/
namespace K37
open PySem L2 KZ
abbrev sZones : Stmt := top 14
section
variable {X : Cx} {o i e f value : Expr} {pos pos' apos cpos : Pos} {td ty tx tv : TE} (P : Program) (w : World)
def tNNewP : TE := fun _ H Q => ∀ p, H p = none → Q (.ref p) (upd H p (DN P w p []))
def tNGetP (td ty : TE) : TE := fun σ H Q => td σ H fun x H1 => ty σ H1 fun y H2 => ∃ a kvs k v, x = .ref a ∧ Rd H2 a (DN P w a kvs) ∧ y = nV k ∧ valV kvs k = some v ∧ Q v H2
def tNGet2P (td ty tx : TE) : TE := fun σ H Q => td σ H fun x H1 => ∃ a kvs, x = .ref a ∧ Rd H1 a (DN P w a kvs) ∧ ty σ H1 fun y H2 => tx σ H2 fun z H3 => ∃ kvs k, Rd H3 a (DN P w a kvs) ∧ y = nV k ∧ Q ((valV kvs k).getD z) H3
def sNPutP (td ty tv : TE) : TS := fun D σ H => tv σ H fun v H1 => td σ H1 fun x H2 => ty σ H2 fun y H3 => ∃ a kvs k, x = .ref a ∧ H3 a = some (DN P w a kvs) ∧ y = nV k ∧ kvs.length < sizeLine ∧ D.nx σ (upd H3 a (DN P w a (putK kvs k v)))
def iNkP (td : TE) : TI := fun σ H R => td σ H fun x H1 => ∃ d o kvs, x = .ref d ∧ H1 d = some (.frz o (DN P w d kvs)) ∧ R (Itn P w d o kvs) H1
theorem pe_nnewK (hP : X.prog = P := by rfl) (hw : X.w = w := by rfl) : PE X (.Dict [] [] pos) (tNNewP P w) := by subst hP hw; exact pe_nnew
theorem pe_ngetK (ho : PE X o td) (hi : PE X i ty) (hs : NoSl i) (hP : X.prog = P := by rfl) (hw : X.w = w := by rfl) : PE X (.Subscript o i pos) (tNGetP P w td ty) := by subst hP hw; exact pe_nget ho hi hs
theorem pe_nget2K (ho : PE X o td) (he : PE X e ty) (hf : PE X f tx) (m : M2 X o "get" apos e f cpos) (hP : X.prog = P := by rfl) (hw : X.w = w := by rfl) : PE X (.Call (.Attribute o "get" apos) [e, f] [] cpos) (tNGet2P P w td ty tx) := by subst hP hw; exact pe_nget2 ho he hf m
theorem ps_nputK (ho : PE X o td) (hi : PE X i ty) (hv : PE X value tv) (hs : swapsWith value (some (.Subscript o i pos')) pos.line X.env = pure false) (hP : X.prog = P := by rfl) (hw : X.w = w := by rfl) : PS X (.Assign [.Subscript o i pos'] value pos) (sNPutP P w td ty tv) := by subst hP hw; exact ps_nput ho hi hv hs
theorem pi_nkK {tg : Expr} (he : PE X e td) (hP : X.prog = P := by rfl) (hw : X.w = w := by rfl) : PI X tg e (iNkP P w td) := by subst hP hw; exact pi_nk he
end
/-! pairs of a lot and a number, in their order -/
abbrev KI : Type := List (Option Int × Int)
def getO (l : KI) (k : Option Int) : Option Int := (l.find? fun p => decide (p.1 = k)).map (·.2)
def setO (l : KI) (k : Option Int) (v : Int) : KI := if (l.any fun p => decide (p.1 = k)) = true then l.map (fun p => if p.1 = k then (p.1, v) else p) else l ++ [(k, v)]
def iv (l : KI) : List (NK × V) := l.map fun p => (nk p.1, V.int p.2)
theorem nk_eq (o u : Option Int) : decide (nk o = nk u) = decide (o = u) := by
  by_cases h : o = u
  · rw [decide_eq_true h, decide_eq_true (by rw [h])]
  · rw [decide_eq_false h, decide_eq_false fun z => h (nk_inj z)]
theorem iv_get (l : KI) (k : Option Int) : valV (iv l) (nk k) = (getO l k).map V.int := by
  unfold valV iv getO
  induction l with
  | nil => rfl
  | cons p r ih =>
    rw [List.map_cons, List.find?_cons, List.find?_cons]
    show Option.map _ (match decide (nk p.1 = nk k) with | true => _ | false => _) = _
    rw [nk_eq]
    cases decide (p.1 = k) with
    | true => rfl
    | false => exact ih
theorem iv_put (l : KI) (k : Option Int) (v : Int) : putK (iv l) (nk k) (.int v) = iv (setO l k v) := by
  have an : ((iv l).any fun kv => decide (kv.1 = nk k)) = l.any fun p => decide (p.1 = k) := by
    unfold iv
    rw [List.any_map]
    congr 1
    funext p
    exact nk_eq p.1 k
  unfold putK setO
  rw [an]
  cases l.any fun p => decide (p.1 = k) with
  | true =>
    rw [if_pos rfl, if_pos rfl]
    unfold iv
    rw [List.map_map, List.map_map]
    refine List.map_congr_left fun p _ => ?_
    show (if nk p.1 = nk k then (nk p.1, V.int v) else (nk p.1, V.int p.2)) = (nk (if p.1 = k then (p.1, v) else p).1, V.int (if p.1 = k then (p.1, v) else p).2)
    by_cases h : p.1 = k
    · rw [if_pos h, if_pos (by rw [h])]
    · rw [if_neg h, if_neg fun z => h (nk_inj z)]
  | false =>
    rw [if_neg (by decide), if_neg (by decide)]
    unfold iv
    rw [List.map_append]
    rfl
theorem setO_len (l : KI) (k : Option Int) (v : Int) : (setO l k v).length ≤ l.length + 1 := by
  unfold setO
  split
  · rw [List.length_map]; omega
  · rw [List.length_append]; simp
theorem iv_getD (l : KI) (k : Option Int) (x : Int) : (valV (iv l) (nk k)).getD (.int x) = V.int ((getO l k).getD x) := by
  rw [iv_get]
  cases getO l k <;> rfl
theorem iv_len (l : KI) : (iv l).length = l.length := by unfold iv; rw [List.length_map]
def max2 (i j : Int) : Int := if j > i then j else i
def min2 (i j : Int) : Int := if j < i then j else i
def lotOf (r : Row) (i : Nat) : Option Int := if r.g = true then r.t else some (i : Int)
def endR (e : KI) (i : Nat) (r : Row) : KI := match r.e with
  | none => e
  | some x => setO e (lotOf r i) (min2 ((getO e (lotOf r i)).getD x) x)
def begR (b : KI) (i : Nat) (r : Row) : KI := setO b (lotOf r i) (max2 ((getO b (lotOf r i)).getD r.b) r.b)
/-- one ask more: ends, begins -/
def stepZ (rs : List Row) (st : KI × KI) (i : Nat) : KI × KI := match rs[i]? with
  | none => st
  | some r => (endR st.1 i r, begR st.2 i r)
def initZ (rs : List Row) : KI × KI := if isTold rs none = true then ([(none, -1)], [(none, -1)]) else ([], [])
def foldZ (rs : List Row) (l : List Nat) : KI × KI := l.foldl (stepZ rs) (initZ rs)
theorem stepZ_none {rs : List Row} {st : KI × KI} {i : Nat} (h : rs[i]? = none) : stepZ rs st i = st := by unfold stepZ; rw [h]
theorem stepZ_some {rs : List Row} {st : KI × KI} {i : Nat} {r : Row} (h : rs[i]? = some r) : stepZ rs st i = (endR st.1 i r, begR st.2 i r) := by unfold stepZ; rw [h]
theorem getO_set (l : KI) (k j : Option Int) (v : Int) : getO (setO l k v) j = if j = k then some v else getO l j := by
  have h := valV_put (iv l) (nk k) (nk j) (.int v)
  rw [iv_put, iv_get, iv_get] at h
  have hj : (nk j = nk k) ↔ (j = k) := ⟨nk_inj, fun z => by rw [z]⟩
  by_cases e : j = k
  · rw [if_pos e]
    rw [if_pos (hj.mpr e)] at h
    cases g : getO (setO l k v) j with
    | none => rw [g] at h; cases h
    | some x => rw [g] at h; cases h; rfl
  · rw [if_neg e]
    rw [if_neg fun z => e (hj.mp z)] at h
    cases g : getO (setO l k v) j with
    | none =>
      rw [g] at h
      cases g2 : getO l j with
      | none => rfl
      | some y => rw [g2] at h; cases h
    | some x =>
      rw [g] at h
      cases g2 : getO l j with
      | none => rw [g2] at h; cases h
      | some y => rw [g2] at h; cases h; rfl
theorem foldZ_snoc (rs : List Row) (l : List Nat) (i : Nat) : foldZ rs (l ++ [i]) = stepZ rs (foldZ rs l) i := by
  unfold foldZ
  rw [List.foldl_append]
  rfl
theorem initZ_len (rs : List Row) : (initZ rs).1.length ≤ 1 ∧ (initZ rs).2.length ≤ 1 := by
  unfold initZ
  split <;> exact ⟨by simp, by simp⟩
theorem stepZ_len (rs : List Row) (st : KI × KI) (i : Nat) : (stepZ rs st i).1.length ≤ st.1.length + 1 ∧ (stepZ rs st i).2.length ≤ st.2.length + 1 := by
  cases h : rs[i]? with
  | none => rw [stepZ_none h]; exact ⟨by omega, by omega⟩
  | some r =>
    rw [stepZ_some h]
    refine ⟨?_, setO_len _ _ _⟩
    show (endR st.1 i r).length ≤ _
    unfold endR
    cases r.e with
    | none => exact Nat.le_succ _
    | some e => exact setO_len _ _ _
theorem foldZ_len (rs : List Row) : ∀ (l : List Nat) (st : KI × KI), (l.foldl (stepZ rs) st).1.length ≤ st.1.length + l.length ∧ (l.foldl (stepZ rs) st).2.length ≤ st.2.length + l.length
  | [], st => ⟨by simp, by simp⟩
  | i :: l, st => by
    rw [List.foldl_cons]
    have h := foldZ_len rs l (stepZ rs st i)
    have h2 := stepZ_len rs st i
    rw [List.length_cons]
    exact ⟨by omega, by omega⟩
theorem foldZ_len1 (rs : List Row) (l : List Nat) : (foldZ rs l).1.length ≤ 1 + l.length ∧ (foldZ rs l).2.length ≤ 1 + l.length := by
  have h := foldZ_len rs l (initZ rs)
  have h2 := initZ_len rs
  exact ⟨Nat.le_trans h.1 (by omega), Nat.le_trans h.2 (by omega)⟩
theorem foldZ_ends (rs : List Row) (k : Option Int) : ∀ (l : List Nat) (st : KI × KI), (getO (l.foldl (stepZ rs) st).1 k).isSome = true ↔ ((getO st.1 k).isSome = true ∨ ∃ i ∈ l, ∃ r, rs[i]? = some r ∧ r.e.isSome = true ∧ lotOf r i = k)
  | [], st => ⟨fun h => .inl h, fun h => h.elim id fun ⟨i, m, _⟩ => by cases m⟩
  | i :: l, st => by
    rw [List.foldl_cons, foldZ_ends rs k l]
    have one : (getO (stepZ rs st i).1 k).isSome = true ↔ ((getO st.1 k).isSome = true ∨ ∃ r, rs[i]? = some r ∧ r.e.isSome = true ∧ lotOf r i = k) := by
      cases h : rs[i]? with
      | none =>
        rw [stepZ_none h]
        exact ⟨.inl, fun h => h.elim id fun ⟨r, z, _⟩ => by cases z⟩
      | some r =>
        rw [stepZ_some h]
        show (getO (endR st.1 i r) k).isSome = true ↔ _
        unfold endR
        cases he : r.e with
        | none => exact ⟨.inl, fun h => h.elim id fun ⟨r', z, z2, _⟩ => by cases z; rw [he] at z2; cases z2⟩
        | some e =>
          show (getO (setO st.1 _ _) k).isSome = true ↔ _
          rw [getO_set]
          by_cases hk : k = lotOf r i
          · rw [if_pos hk]
            exact ⟨fun _ => .inr ⟨r, rfl, by rw [he]; rfl, hk.symm⟩, fun _ => rfl⟩
          · rw [if_neg hk]
            exact ⟨.inl, fun h => h.elim id fun ⟨r', z, _, z2⟩ => by cases z; exact absurd z2.symm hk⟩
    rw [one]
    constructor
    · rintro ((h | ⟨r, h⟩) | ⟨j, m, h⟩)
      · exact .inl h
      · exact .inr ⟨i, List.mem_cons_self, r, h⟩
      · exact .inr ⟨j, List.mem_cons_of_mem _ m, h⟩
    · rintro (h | ⟨j, m, r, h⟩)
      · exact .inl (.inl h)
      · rcases List.mem_cons.mp m with rfl | m
        · exact .inl (.inr ⟨r, h⟩)
        · exact .inr ⟨j, m, r, h⟩
theorem foldZ_begins (rs : List Row) (k : Option Int) : ∀ (l : List Nat) (st : KI × KI), (getO (l.foldl (stepZ rs) st).2 k).isSome = true ↔ ((getO st.2 k).isSome = true ∨ ∃ i ∈ l, ∃ r, rs[i]? = some r ∧ lotOf r i = k)
  | [], st => ⟨fun h => .inl h, fun h => h.elim id fun ⟨i, m, _⟩ => by cases m⟩
  | i :: l, st => by
    rw [List.foldl_cons, foldZ_begins rs k l]
    have one : (getO (stepZ rs st i).2 k).isSome = true ↔ ((getO st.2 k).isSome = true ∨ ∃ r, rs[i]? = some r ∧ lotOf r i = k) := by
      cases h : rs[i]? with
      | none =>
        rw [stepZ_none h]
        exact ⟨.inl, fun h => h.elim id fun ⟨r, z, _⟩ => by cases z⟩
      | some r =>
        rw [stepZ_some h]
        show (getO (begR st.2 i r) k).isSome = true ↔ _
        unfold begR
        rw [getO_set]
        by_cases hk : k = lotOf r i
        · rw [if_pos hk]
          exact ⟨fun _ => .inr ⟨r, rfl, hk.symm⟩, fun _ => rfl⟩
        · rw [if_neg hk]
          exact ⟨.inl, fun h => h.elim id fun ⟨r', z, z2⟩ => by cases z; exact absurd z2.symm hk⟩
    rw [one]
    constructor
    · rintro ((h | ⟨r, h⟩) | ⟨j, m, h⟩)
      · exact .inl h
      · exact .inr ⟨i, List.mem_cons_self, r, h⟩
      · exact .inr ⟨j, List.mem_cons_of_mem _ m, h⟩
    · rintro (h | ⟨j, m, r, h⟩)
      · exact .inl (.inl h)
      · rcases List.mem_cons.mp m with rfl | m
        · exact .inl (.inr ⟨r, h⟩)
        · exact .inr ⟨j, m, r, h⟩
theorem initZ_get (rs : List Row) (k : Option Int) : ((getO (initZ rs).1 k).isSome = true ↔ (getO (initZ rs).2 k).isSome = true) := by
  unfold initZ
  by_cases h : isTold rs none = true
  · rw [if_pos h]
  · rw [if_neg h]
theorem mem_parts {rs : List Row} {i : Nat} : i ∈ partsOf rs ↔ ∃ r, rs[i]? = some r ∧ (r.e.isSome || (!r.g && isTold rs (some (i : Int)))) = true := by
  unfold partsOf
  rw [List.mem_filter, List.mem_range]
  unfold isPart
  constructor
  · rintro ⟨h, p⟩
    rw [List.getElem?_eq_getElem h] at p
    exact ⟨_, List.getElem?_eq_getElem h, p⟩
  · rintro ⟨r, e, p⟩
    rw [e]
    exact ⟨(List.getElem?_eq_some_iff.mp e).1, p⟩
/-- each lot that has a begin has an end -/
theorem ends_there {rs : List Row} {k : Option Int} (h : (getO (foldZ rs (partsOf rs)).2 k).isSome = true) : (getO (foldZ rs (partsOf rs)).1 k).isSome = true := by
  unfold foldZ at h ⊢
  rw [foldZ_begins] at h
  rw [foldZ_ends]
  rcases h with h | ⟨i, m, r, e, lk⟩
  · exact .inl ((initZ_get rs k).mpr h)
  · refine .inr ?_
    obtain ⟨r', e', p⟩ := mem_parts.mp m
    rw [e] at e'
    cases e'
    by_cases he : r.e.isSome = true
    · exact ⟨i, m, r, e, he, lk⟩
    · rw [Bool.not_eq_true] at he
      rw [he, Bool.false_or, Bool.and_eq_true] at p
      obtain ⟨ng, tl⟩ := p
      have g0 : r.g = false := by simpa using ng
      unfold isTold at tl
      obtain ⟨r2, m2, t2⟩ := List.any_eq_true.mp tl
      obtain ⟨j, hj, ej⟩ := List.mem_iff_getElem.mp m2
      rw [Bool.and_eq_true] at t2
      obtain ⟨t3, t4⟩ := t2
      unfold tells at t3
      rw [Bool.and_eq_true] at t3
      have ej2 : rs[j]? = some r2 := by rw [List.getElem?_eq_getElem hj, ej]
      refine ⟨j, mem_parts.mpr ⟨r2, ej2, by rw [t3.2]; rfl⟩, r2, ej2, t3.2, ?_⟩
      rw [← lk]
      unfold lotOf
      rw [if_pos t3.1, g0, if_neg (by decide)]
      exact of_decide_eq_true t4
/-- the lots, their least ends, their greatest begins -/
def putsZ (b : KI) : List Int := PySem.W.sortI ((b.map (·.1)).filterMap id)
def lotsZ (b : KI) : List (Option Int) := if (getO b none).isSome = true then none :: (putsZ b).map some else (putsZ b).map some
def zoneZ (st : KI × KI) (k : Option Int) : Option Int × Int × Int := (k, (getO st.1 k).getD 0, (getO st.2 k).getD 0)
def zonesOf (rs : List Row) : List (Option Int × Int × Int) := (lotsZ (foldZ rs (partsOf rs)).2).map (zoneZ (foldZ rs (partsOf rs)))
theorem getO_mem {b : KI} {k : Option Int} (h : k ∈ b.map (·.1)) : (getO b k).isSome = true := by
  unfold getO
  obtain ⟨p, m, e⟩ := List.mem_map.mp h
  rw [Option.isSome_map, List.find?_isSome]
  exact ⟨p, m, decide_eq_true e⟩
theorem lots_there {b : KI} {k : Option Int} (h : k ∈ lotsZ b) : (getO b k).isSome = true := by
  have put : ∀ k, k ∈ (putsZ b).map some → (getO b k).isSome = true := fun k m => by
    obtain ⟨x, hx, rfl⟩ := List.mem_map.mp m
    have := (PySem.W.sortI_perm _).mem_iff.mp hx
    obtain ⟨o, mo, eo⟩ := List.mem_filterMap.mp this
    cases eo
    exact getO_mem mo
  unfold lotsZ at h
  split at h
  · rcases List.mem_cons.mp h with rfl | h
    · assumption
    · exact put _ h
  · exact put _ h
section
variable {P : Program} {w : World} {K : PySem.W.Frag} {mg : Str → Option Value} {base : Heap} {fT fN fP C cB cT : Addr} {dT dN dP : FuncData}
theorem scZones : FnScope ["asks", "ends", "begins", "at", "ask", "lot", "puts", "lots"] ["asks"] (defScope sZones) := ⟨rfl, rfl, rfl, by decide +kernel, rfl, by decide +kernel, by decide +kernel⟩
/-- the zones at p -/
def ZonesAt (H : Hp) (p : Addr) (zs : List (Option Int × Int × Int)) : Prop := ∃ qs : List Addr, H p = some (.tup (qs.map V.ref)) ∧ qs.length = zs.length ∧ ∀ (i : Nat) q z, qs[i]? = some q → zs[i]? = some z → H q = some (.tup [oV z.1, .int z.2.1, .int z.2.2])
def spZones (K : PySem.W.Frag) (C cB cT : Addr) : Sp := fun vs H Q E => ∃ v, vs = [v] ∧ Looked K C cB cT v H E fun _ rs => ∀ p H', Same H H' → ZonesAt H' p (zonesOf rs) → Q (.ref p) H'
structure ZS (P : Program) (w : World) (De Db D : Addr) (H1 : Hp) (rs : List Row) (st : KI × KI) (H : Hp) : Prop where
  e : H De = some (DN P w De (iv st.1))
  b : H Db = some (DN P w Db (iv st.2))
  d : H D = some (.lst (nats (partsOf rs)))
  s : Same H1 H
theorem lot_val (A : AskC K mg C) {σ : L2.St} {H : Hp} {p : Addr} {r : Row} {at_ : Nat} {Q : VK} (h3 : σ[3]? = some (some (.int at_))) (h4 : σ[4]? = some (some (.ref p))) (ha : AskAt C H p r) (q : Q (oV (lotOf r at_)) H) :
    tIf (tTest (tOp rEq (tFld K (tVar 4) "word") (tC (.str "put")))) (tVar 3) (tFld K (tVar 4) "told") σ H Q := by
  obtain ⟨dx, ea⟩ := ha
  refine ⟨.ref p, h4, p, C, dx, flds r, .str (wd r.g), rfl, ea, A.cl, A.nw, rfl, rfl, !r.g, (by cases r.g <;> decide +kernel), ?_⟩
  unfold lotOf at q
  cases hg : r.g with
  | true =>
    rw [hg, if_pos rfl] at q
    exact iteF' ⟨.ref p, h4, p, C, dx, flds r, oV r.t, rfl, ea, A.cl, A.nt, rfl, q⟩
  | false =>
    rw [hg, if_neg (by decide)] at q
    exact iteT' ⟨_, h3, q⟩
theorem walk_nk {P : Program} {w : World} {d : Addr} {o : Obj} {kvs : List (NK × V)} : Walk (KZ.Itn P w d o kvs) kvs.length (fun H => H d = some (.frz o (DN P w d kvs))) (fun i H x H' => H' = H ∧ ∃ k v, kvs[i]? = some (k, v) ∧ x = nV k) :=
  ⟨fun _ _ hi q => ⟨q, hi⟩, fun _ q => ⟨q, Nat.le_refl _⟩, fun _ _ _ _ _ _ y => y⟩
def soms (b : KI) : List Int := (b.map (·.1)).filterMap id
theorem putsZ_len (b : KI) : (putsZ b).length ≤ b.length := by
  unfold putsZ
  rw [(PySem.W.sortI_perm _).length_eq]
  refine Nat.le_trans (List.length_filterMap_le _ _) ?_
  rw [List.length_map]
  exact Nat.le_refl _
theorem lotsZ_len (b : KI) : (lotsZ b).length ≤ b.length + 1 := by
  have := putsZ_len b
  unfold lotsZ
  split
  · rw [List.length_cons, List.length_map]; omega
  · rw [List.length_map]; omega
theorem lots_val {σ : L2.St} {H : Hp} {Db M : Addr} {b : KI} {Q : VK} (h2 : σ[2]? = some (some (.ref Db))) (h6 : σ[6]? = some (some (.ref M))) (hl : b.length ≤ 1001) (hb : H Db = some (DN P w Db (iv b))) (hm : H M = some (.lst ((putsZ b).map V.int))) (q : ∀ L H', Same H H' → H' L = some (.lst ((lotsZ b).map oV)) → Q (.ref L) H') :
    tIf (tB (tNInP P w (tC .non) (tVar 2))) (tLst (tCons (tC .non) (StX.tStar K (tVar 6) tNil))) (tVar 6) σ H Q := by
  refine ⟨.ref Db, h2, Db, iv b, none, rfl, .inl hb, rfl, (getO b none).isSome, (by rw [show (none : NK) = nk none from rfl, iv_get]; cases getO b none <;> rfl), ?_⟩
  have mm : ((putsZ b).map some).map oV = (putsZ b).map V.int := by
    rw [List.map_map]
    rfl
  unfold lotsZ at q
  cases hn : (getO b none).isSome with
  | true =>
    rw [hn, if_pos rfl] at q
    have pl := putsZ_len b
    refine iteT' ⟨.ref M, h6, M, _, rfl, .inr (SqL.of hm), ?_, fun L hL => q L _ (same_new hL) ?_⟩
    · rw [List.append_nil, List.length_cons, List.length_map]
      exact Nat.le_trans (show _ ≤ 1002 by omega) (by decide)
    · rw [upd_same, List.append_nil, List.map_cons, mm]
      rfl
  | false =>
    rw [hn, if_neg (by decide), mm] at q
    exact iteF' ⟨_, h6, q M H (Same.refl H) hm⟩
theorem get_val {l : KI} {k : Option Int} (h : (getO l k).isSome = true) : valV (iv l) (nk k) = some (.int ((getO l k).getD 0)) := by
  rw [iv_get]
  cases g : getO l k with
  | none => rw [g] at h; cases h
  | some x => rfl
theorem ite_nx {s1 : TS} {D : Ends} {σ : L2.St} {H : Hp} {b : Bool} (I : Hp → Prop) (rest : ∀ H', I H' → D.nx σ H') (h1 : b = true → (∀ H', I H' → D.nx σ H') → s1 D σ H) (h0 : b = false → I H) : if b = true then s1 D σ H else tNext D σ H := by
  cases b with
  | true => rw [if_pos rfl]; exact h1 rfl rest
  | false => rw [if_neg (by decide)]; exact rest H (h0 rfl)
theorem ok_zones {f : Addr} {fd : FuncData} (F : Fun K "zones" "zones" sZones f fd) (A : AskC K mg C) (T : B1 mg) (gN : mg "need_asks" = some (.ref fN)) (GN : FnOk P w K mg base (L2.CX P w) 7 fN dN ["asks"] (spNeed K C cB cT)) (FN : Fun K "need_asks" "need_asks" sNeed fN dN) (bN : Binds K dN ["asks"] [])
    (gT : mg "told_lots" = some (.ref fT)) (FT : Fun K "told_lots" "told_lots" sTold fT dT) (bT : Binds K dT ["asks"] []) (gP : mg "parts_of" = some (.ref fP)) (FP : Fun K "parts_of" "parts_of" sParts fP dP) (bP : Binds K dP ["asks"] []) : FnOk P w K mg base (L2.CX P w) 8 f fd ["asks"] (spZones K C cB cT) := by
  have GT : FnOk P w K mg base CX0 1 fT dT ["asks"] (spTold K P w C) := ok_told FT A T
  have GP : FnOk P w K mg base CX0 2 fP dP ["asks"] (spParts K C) := ok_parts_of FP A T gT FT bT
  refine F.okX scZones (fun vs H Q E h => ?_) (fun cdv A' outer s H vs Q E hr h => ?_)
  · obtain ⟨v, rfl, _⟩ := h
    rfl
  · obtain ⟨v, rfl, h⟩ := h
    have hr7 : Room 7 _ := hr
    have hr2 : Room 2 _ := hr.mono (by decide)
    have hr1 : Room 1 _ := hr.mono (by decide)
    refine ⟨_, (pss_cons (ps_expr (pe_call GN hr7 (by rfl) gN FN.kp bN .nil (passes_call (takes_of rfl rfl rfl rfl) fun _ _ _ _ z => z) (pa_cons (pv 0) pa_nil)))
(pss_cons (ps_set (i := 1) scZones.nd rfl (Or.inr rfl) (pe_nnewK P w))
(pss_cons (ps_set (i := 2) scZones.nd rfl (Or.inr rfl) (pe_nnewK P w))
(pss_cons (ps_if (pt_cmp (pc_ninK P w pe_non (pe_call GT hr1 (by rfl) gT FT.kp bT .nil pass0 (pa_cons (pv 0) pa_nil))))
(pss_cons (ps_nputK P w (pv 1) pe_non (pe_un un_neg pe_int) rfl)
(pss_one (ps_nputK P w (pv 2) pe_non (pe_un un_neg pe_int) rfl)))
pss_nil)
(pss_cons (ps_for (passes_of rfl) rfl (pi_list (pe_call GP hr2 (by rfl) gP FP.kp bP .nil pass0 (pa_cons (pv 0) pa_nil))) (pg_name (i := 3) scZones.nd rfl (Or.inl rfl))
(pss_cons (ps_set (i := 4) scZones.nd rfl (Or.inl rfl) (pe_ix (ix_seqK K) (pv 0) (pv 3) (fun _ _ => rfl)))
(pss_cons (ps_set (i := 5) scZones.nd rfl (Or.inl rfl) (pe_ifExp (pt_cmpR op_eq (pe_fldK K (pv 4) rfl) pe_str (nomark _)) (pv 3) (pe_fldK K (pv 4) rfl)))
(pss_cons (ps_nputK P w (pv 2) (pv 5) (pe_callB (call_max2 rfl) (by rfl) T.max (by decide +kernel) (pa_cons (pe_nget2K P w (pv 2) (pv 5) (pe_fldK K (pv 4) rfl) ⟨rfl, rfl, rfl, rfl⟩) (pa_cons (pe_fldK K (pv 4) rfl) pa_nil))) rfl)
(pss_one (ps_if (pt_cmpR op_notN (pe_fldK K (pv 4) rfl) pe_non (nomark _))
(pss_one (ps_nputK P w (pv 1) (pv 5) (pe_callB (call_min2 rfl) (by rfl) T.min (by decide +kernel) (pa_cons (pe_nget2K P w (pv 1) (pv 5) (pe_fldK K (pv 4) rfl) ⟨rfl, rfl, rfl, rfl⟩) (pa_cons (pe_fldK K (pv 4) rfl) pa_nil))) rfl))
pss_nil))))))
(pss_cons (ps_set (i := 6) scZones.nd rfl (Or.inl rfl) (pe_callB cr_sortedI (by rfl) T.sorted (by decide +kernel) (pa_cons (pe_lock (pe_lc (own := [("lot", 5)]) (g := gName 5) (by rfl) scZones.nd (pi_nkK P w (pv 2)) (blkOk_by (own := [("lot", 5)]) (N := ["asks", "ends", "begins", "at", "ask", "lot", "puts", "lots"]) (sc := defScope sZones) (by decide +kernel)) (fun _ _ _ _ _ => pg_name (i := 5) scZones.nd rfl (Or.inl rfl)) (fun _ _ _ _ _ => pts_one (pt_cmpR op_notN (pv 5) pe_non (nomark _))) (fun _ _ _ _ _ => pv 5))) pa_nil)))
(pss_cons (ps_set (i := 7) scZones.nd rfl (Or.inl rfl) (pe_ifExp (pt_cmp (pc_ninK P w pe_non (pv 2))) (pe_lst (pa_cons pe_non (StX.pa_star (pv 6) pa_nil))) (pv 6)))
(pss_one (ps_ret (pe_callTy call_tuple_of (by rfl) T.tuple (by decide +kernel) (pa_cons (pe_lc (own := [("lot", 5)]) (g := gName 5) (tt := tYes) (by rfl) scZones.nd (pi_list (pv 7)) (blkOk_by (own := [("lot", 5)]) (N := ["asks", "ends", "begins", "at", "ask", "lot", "puts", "lots"]) (sc := defScope sZones) (by decide +kernel)) (fun _ _ _ _ _ => pg_name (i := 5) scZones.nd rfl (Or.inl rfl)) (fun _ _ _ _ _ => pts_nil) (fun _ _ _ _ _ => pe_tup (pa_cons (pv 5) (pa_cons (pe_ngetK P w (pv 1) (pv 5) (fun _ _ => rfl)) (pa_cons (pe_ngetK P w (pv 2) (pv 5) (fun _ _ => rfl)) pa_nil))))) pa_nil))))))))))), ?_⟩
    refine ⟨v, rfl, v, rfl, h.dis fun a rs e hh hl ok z q H1 s1 => ?_⟩
    subst e
    have hh1 := hh.mono s1
    refine fun De hDe Db hDb => ?_
    have ne : Db ≠ De := fun z => by rw [z, upd_same] at hDb; cases hDb
    have hb1 : H1 Db = none := by rw [upd_ne ne] at hDb; exact hDb
    have s2 : Same H1 (upd (upd H1 De (DN P w De [])) Db (DN P w Db [])) := (same_new hDe).trans (same_new hDb)
    refine ⟨.ref a, rfl, a, rs, rfl, hh1.mono s2, by omega, fun T hT => ⟨T, toldKvs rs, none, rfl, .inl upd_same, rfl, isTold rs none, (by rw [← told_in]; rfl), ?_⟩⟩
    have hd0 : Same (upd (upd H1 De (DN P w De [])) Db (DN P w Db [])) (upd (upd (upd H1 De (DN P w De [])) Db (DN P w Db [])) T (DN P w T (toldKvs rs))) := same_new hT
    have se : upd (upd (upd H1 De (DN P w De [])) Db (DN P w Db [])) T (DN P w T (toldKvs rs)) De = some (DN P w De (iv [])) := hd0 _ _ (by rw [upd_ne ne.symm, upd_same]; rfl)
    have sb : upd (upd (upd H1 De (DN P w De [])) Db (DN P w Db [])) T (DN P w T (toldKvs rs)) Db = some (DN P w Db (iv [])) := hd0 _ _ (by rw [upd_same]; rfl)
    have s3 := s2.trans hd0
    generalize upd (upd (upd H1 De (DN P w De [])) Db (DN P w Db [])) T (DN P w T (toldKvs rs)) = H2 at se sb s3 ⊢
    refine ite_nx (fun H3 => H3 De = some (DN P w De (iv (initZ rs).1)) ∧ H3 Db = some (DN P w Db (iv (initZ rs).2)) ∧ Same H1 H3) (fun H3 h3 => ?_) (fun tl rest => ?_) (fun tl => ?_)
    rotate_left
    · have i0 : initZ rs = ([(none, -1)], [(none, -1)]) := by unfold initZ; rw [if_pos tl]
      rw [i0] at rest
      refine ⟨_, rfl, .ref De, rfl, De, [], none, rfl, se, rfl, by decide, ?_⟩
      refine ⟨_, rfl, .ref Db, rfl, Db, [], none, rfl, (upd_ne ne).trans sb, rfl, by decide, rest _ ⟨?_, upd_same, ?_⟩⟩
      · rw [upd_ne ne.symm]
        exact upd_same
      · exact fun b o e => by
          have b1 : b ≠ De := ne_of_none e hDe
          have b2 : b ≠ Db := ne_of_none e hb1
          rw [upd_ne b2, upd_ne b1]
          exact s3 b o e
    · have i0 : initZ rs = ([], []) := by unfold initZ; rw [tl]; rfl
      rw [i0]
      exact ⟨se, sb, s3⟩
    obtain ⟨he, hb, s4⟩ := h3
    refine ⟨.ref a, rfl, a, rs, rfl, hh1.mono s4, by omega, fun D H4 s5 nD hD => ⟨D, rfl, ⟨_, SqL.of hD⟩, ?_⟩⟩
    have neD1 : De ≠ D := ne_of_none he nD
    have neD2 : Db ≠ D := ne_of_none hb nD
    have z0 : ZS P w De Db D H1 rs (foldZ rs ((partsOf rs).take 0)) H4 := ⟨s5 _ _ he, s5 _ _ hb, hD, s4.trans s5⟩
    refine for_it (walk_list (K := K) (a := D) (xs := nats (partsOf rs))) (fun i σ H' => ∃ x3 x4 x5, σ = [some (.ref a), some (.ref De), some (.ref Db), x3, x4, x5, none, none] ∧ ZS P w De Db D H1 rs (foldZ rs ((partsOf rs).take i)) H') ⟨_, _, _, rfl, z0⟩ (fun i σ H' _ ⟨_, _, _, _, z⟩ => SqL.of z.d) ?_ ?_
    · rintro i x σ H5 H6 hi ⟨x3, x4, x5, rfl, zs⟩ ⟨rfl, hx⟩
      have hi2 : i < (partsOf rs).length := by
        unfold nats at hi
        rw [List.length_map] at hi
        exact hi
      have ex : x = .int ((partsOf rs)[i] : Nat) := by
        unfold nats at hx
        rw [List.getElem?_map, List.getElem?_eq_getElem hi2] at hx
        exact (Option.some.inj hx).symm
      subst ex
      have tk : foldZ rs ((partsOf rs).take (i + 1)) = stepZ rs (foldZ rs ((partsOf rs).take i)) (partsOf rs)[i] := by
        rw [List.take_add_one, List.getElem?_eq_getElem hi2]
        exact foldZ_snoc rs _ _
      have ln : ((partsOf rs).take i).length ≤ 1000 := by
        have h1 : (partsOf rs).length ≤ rs.length := by
          unfold partsOf
          exact Nat.le_trans (List.length_filter_le _ _) (by simp)
        rw [List.length_take]
        omega
      have l1 := foldZ_len1 rs ((partsOf rs).take i)
      obtain ⟨r, er, _⟩ := mem_parts.mp (List.getElem_mem hi2)
      rw [tk, stepZ_some er]
      generalize (partsOf rs)[i] = at_ at er ⊢
      generalize foldZ rs ((partsOf rs).take i) = st at zs l1 ⊢
      obtain ⟨ps, sq, h2⟩ := hh1.sq
      have hip : at_ < ps.length := by rw [h2.1]; exact (List.getElem?_eq_some_iff.mp er).1
      have ep : ps[at_]? = some ps[at_] := List.getElem?_eq_getElem hip
      generalize ps[at_] = p at ep
      have at1 : atI (ps.map V.ref) (at_ : Int) = some (.ref p) := at_nat (by rw [List.getElem?_map, ep]; rfl)
      have ask := (h2.2 at_ p r ep er).mono zs.s
      refine ⟨.ref a, rfl, .int at_, rfl, Sq.ix (Sq.mono zs.s sq) at1 (lot_val A rfl rfl ask ?_)⟩
      obtain ⟨dx, ea⟩ := ask
      have nb : ∀ l : KI, l.length ≤ 1 + ((partsOf rs).take i).length → (iv l).length < sizeLine := fun l h => by
        rw [iv_len]
        exact Nat.lt_of_le_of_lt (Nat.le_trans h (show _ ≤ 1001 by omega)) (by decide)
      refine ⟨.ref Db, rfl, Db, iv st.2, rfl, .inl zs.b, oV (lotOf r at_), rfl, .ref p, rfl, p, C, dx, flds r, .int r.b, rfl, ea, A.cl, A.nb, rfl, iv st.2, nk (lotOf r at_), .inl zs.b, (nk_v _).symm, .ref p, rfl, p, C, dx, flds r, .int r.b, rfl, ea, A.cl, A.nb, rfl, (getO st.2 (lotOf r at_)).getD r.b, r.b, by rw [iv_getD], ?_⟩
      refine ⟨.ref Db, rfl, _, rfl, Db, iv st.2, nk (lotOf r at_), rfl, zs.b, (nk_v _).symm, nb _ l1.2, ?_⟩
      have pDe : H1 De = none := hDe
      have b1 : begR st.2 at_ r = setO st.2 (lotOf r at_) (max2 ((getO st.2 (lotOf r at_)).getD r.b) r.b) := rfl
      have pu : putK (iv st.2) (nk (lotOf r at_)) (.int (if r.b > (getO st.2 (lotOf r at_)).getD r.b then r.b else (getO st.2 (lotOf r at_)).getD r.b)) = iv (begR st.2 at_ r) := by
        rw [iv_put, b1]
        rfl
      rw [pu]
      have z1 : ZS P w De Db D H1 rs (st.1, begR st.2 at_ r) (upd H6 Db (DN P w Db (iv (begR st.2 at_ r)))) := by
        refine ⟨?_, upd_same, ?_, fun b o e => ?_⟩
        · rw [upd_ne ne.symm]; exact zs.e
        · rw [upd_ne neD2.symm]; exact zs.d
        · rw [upd_ne (ne_of_none e hb1)]; exact zs.s b o e
      have ea : AskAt C (upd H6 Db (DN P w Db (iv (begR st.2 at_ r)))) p r := by
        have : AskAt C H1 p r := h2.2 at_ p r ep er
        exact this.mono z1.s
      obtain ⟨dx, ea⟩ := ea
      generalize upd H6 Db (DN P w Db (iv (begR st.2 at_ r))) = H7 at z1 ea ⊢
      refine ⟨.ref p, rfl, p, C, dx, flds r, oV r.e, rfl, ea, A.cl, A.ne, rfl, rfl, r.e.isSome, (by cases r.e <;> rfl), ?_⟩
      have e1 : endR st.1 at_ r = match r.e with
        | none => st.1
        | some x => setO st.1 (lotOf r at_) (min2 ((getO st.1 (lotOf r at_)).getD x) x) := rfl
      cases he : r.e with
      | none =>
        rw [he] at e1
        rw [e1]
        exact iteF' ⟨_, _, _, rfl, z1⟩
      | some x =>
        rw [he] at e1
        rw [e1]
        refine iteT' ?_
        refine ⟨.ref De, rfl, De, iv st.1, rfl, .inl z1.e, oV (lotOf r at_), rfl, .ref p, rfl, p, C, dx, flds r, .int x, rfl, ea, A.cl, A.ne, (by unfold flds; rw [he]; rfl), iv st.1, nk (lotOf r at_), .inl z1.e, (nk_v _).symm, .ref p, rfl, p, C, dx, flds r, .int x, rfl, ea, A.cl, A.ne, (by unfold flds; rw [he]; rfl), (getO st.1 (lotOf r at_)).getD x, x, by rw [iv_getD], ?_⟩
        refine ⟨.ref De, rfl, _, rfl, De, iv st.1, nk (lotOf r at_), rfl, z1.e, (nk_v _).symm, nb _ l1.1, ?_⟩
        have pu : putK (iv st.1) (nk (lotOf r at_)) (.int (if x < (getO st.1 (lotOf r at_)).getD x then x else (getO st.1 (lotOf r at_)).getD x)) = iv (setO st.1 (lotOf r at_) (min2 ((getO st.1 (lotOf r at_)).getD x) x)) := by
          rw [iv_put]
          rfl
        rw [pu]
        refine ⟨_, _, _, rfl, upd_same, ?_, ?_, fun b o e => ?_⟩
        · rw [upd_ne ne]; exact z1.b
        · rw [upd_ne neD1.symm]; exact z1.d
        · rw [upd_ne (ne_of_none e hDe)]; exact z1.s b o e
    · rintro σ H5 ⟨x3, x4, x5, rfl, zs⟩
      have ln : (nats (partsOf rs)).length = (partsOf rs).length := by unfold nats; rw [List.length_map]
      rw [ln, List.take_of_length_le (Nat.le_refl _)] at zs
      have le2 := (foldZ_len1 rs (partsOf rs)).2
      have pl : (partsOf rs).length ≤ 1000 := by
        have h1 : (partsOf rs).length ≤ rs.length := by
          unfold partsOf
          exact Nat.le_trans (List.length_filter_le _ _) (by simp)
        omega
      have there := fun k => ends_there (rs := rs) (k := k)
      have q := q
      unfold zonesOf at q
      generalize foldZ rs (partsOf rs) = st at zs le2 there q
      refine ⟨Db, DN P w Db (iv st.2), zs.b, DN.mut, fun od => ?_⟩
      refine ⟨.ref Db, rfl, Db, od, iv st.2, rfl, upd_same, fun L hL => ?_⟩
      have nL : L ≠ Db := fun z => by rw [z, upd_same] at hL; cases hL
      refine lc_it walk_nk (fun i H' => H' = upd (upd H5 Db (.frz od (DN P w Db (iv st.2)))) L (.lst ((soms (st.2.take i)).map V.int))) rfl (fun i H' _ e => by rw [e, upd_ne nL.symm]; exact upd_same) ?_ ?_
      · rintro i x H6 H7 hi rfl ⟨rfl, kk, vv, hx, rfl⟩
        obtain ⟨⟨o, n⟩, ho, eo⟩ : ∃ z, st.2[i]? = some z ∧ (nk z.1, V.int z.2) = (kk, vv) := by
          unfold iv at hx
          rw [List.getElem?_map] at hx
          cases hz : st.2[i]? with
          | none => rw [hz] at hx; cases hx
          | some z => rw [hz] at hx; exact ⟨z, rfl, Option.some.inj hx⟩
        cases eo
        have sm : soms (st.2.take (i + 1)) = soms (st.2.take i) ++ o.toList := by
          unfold soms
          rw [List.take_add_one, ho]
          cases o <;> simp
        rw [sm]
        refine ⟨rfl, nV (nk o), rfl, rfl, o.isSome, (by cases o <;> rfl), ?_⟩
        cases o with
        | none =>
          show _ = _
          rw [show (none : Option Int).toList = [] from rfl, List.append_nil]
        | some m =>
          refine ⟨nV (nk (some m)), rfl, _, upd_same, ?_, ?_⟩
          · have l1 : (soms (st.2.take i)).length ≤ i := by
              unfold soms
              refine Nat.le_trans (List.length_filterMap_le _ _) ?_
              rw [List.length_map, List.length_take]
              omega
            have l2 : i < st.2.length := by rw [iv_len] at hi; exact hi
            rw [List.length_map]
            exact Nat.lt_of_le_of_lt (Nat.le_trans l1 (show i ≤ 1001 by omega)) (by decide)
          · rw [upd_upd, List.map_append]
            rfl
      · rintro H6 rfl
        have e0 : soms (st.2.take (iv st.2).length) = soms st.2 := by rw [iv_len, List.take_of_length_le (Nat.le_refl _)]
        rw [e0]
        refine ⟨by rw [upd_ne nL.symm]; exact upd_same, ?_⟩
        have bk : upd (upd (upd H5 Db (.frz od (DN P w Db (iv st.2)))) L (.lst ((soms st.2).map V.int))) Db (DN P w Db (iv st.2)) = upd H5 L (.lst ((soms st.2).map V.int)) := by
          funext x
          unfold upd
          by_cases x1 : x = Db
          · subst x1
            rw [if_pos rfl, if_neg nL.symm]
            exact zs.b.symm
          · rw [if_neg x1]
            by_cases x2 : x = L
            · rw [if_pos x2, if_pos x2]
            · rw [if_neg x2, if_neg x2, if_neg x1]
        rw [bk]
        have nL5 : H5 L = none := by rw [upd_ne nL] at hL; exact hL
        refine ⟨L, soms st.2, rfl, SqL.of upd_same, fun ns M perm asc hM => ?_⟩
        obtain rfl := PySem.W.eq_sortI perm asc
        have s8 : Same H5 (upd (upd H5 L (.lst ((soms st.2).map V.int))) M (.lst ((PySem.W.sortI (soms st.2)).map V.int))) := (same_new nL5).trans (same_new hM)
        have zm : upd (upd H5 L (.lst ((soms st.2).map V.int))) M (.lst ((PySem.W.sortI (soms st.2)).map V.int)) M = some (.lst ((putsZ st.2).map V.int)) := upd_same
        have z8 : ZS P w De Db D H1 rs st (upd (upd H5 L (.lst ((soms st.2).map V.int))) M (.lst ((PySem.W.sortI (soms st.2)).map V.int))) := ⟨s8 _ _ zs.e, s8 _ _ zs.b, s8 _ _ zs.d, zs.s.trans s8⟩
        generalize upd (upd H5 L (.lst ((soms st.2).map V.int))) M (.lst ((PySem.W.sortI (soms st.2)).map V.int)) = H8 at zm z8 ⊢
        refine lots_val rfl rfl (by omega) z8.b zm fun L2 H9 s9 hL2 => ?_
        have z9 : ZS P w De Db D H1 rs st H9 := ⟨s9 _ _ z8.e, s9 _ _ z8.b, s9 _ _ z8.d, z8.s.trans s9⟩
        refine ⟨.ref L2, rfl, L2, rfl, ⟨_, SqL.of hL2⟩, fun G hG => ?_⟩
        refine lc_it (walk_list (K := K) (a := L2) (xs := (lotsZ st.2).map oV)) (fun i H' => ∃ qs : List Addr, H' G = some (.lst (qs.map V.ref)) ∧ qs.length = i ∧ Same H9 H' ∧ ∀ (j : Nat) q k, qs[j]? = some q → (lotsZ st.2)[j]? = some k → H' q = some (.tup [oV (zoneZ st k).1, .int (zoneZ st k).2.1, .int (zoneZ st k).2.2])) ⟨[], upd_same, rfl, same_new hG, fun j q k e => by cases e⟩ (fun i H' _ ⟨qs, _, _, s, _⟩ => SqL.of (s _ _ hL2)) ?_ ?_
        · rintro i x H10 H11 hi ⟨qs, hg, lq, s10, all⟩ ⟨rfl, hx⟩
          have hi2 : i < (lotsZ st.2).length := by rw [List.length_map] at hi; exact hi
          obtain ⟨k, hk, rfl⟩ : ∃ k, (lotsZ st.2)[i]? = some k ∧ oV k = x := by
            rw [List.getElem?_map, List.getElem?_eq_getElem hi2] at hx
            exact ⟨_, List.getElem?_eq_getElem hi2, Option.some.inj hx⟩
          have in2 := lots_there (List.mem_of_getElem? hk)
          have in1 := there k in2
          refine ⟨rfl, yes_go ⟨oV k, rfl, .ref De, rfl, oV k, rfl, De, iv st.1, nk k, .int ((getO st.1 k).getD 0), rfl, .inl (s10 _ _ z9.e), (nk_v _).symm, get_val in1, .ref Db, rfl, oV k, rfl, Db, iv st.2, nk k, .int ((getO st.2 k).getD 0), rfl, .inl (s10 _ _ z9.b), (nk_v _).symm, get_val in2, (show 3 ≤ sizeLine by decide), fun T hT => ?_⟩⟩
          have nT : T ≠ G := fun z => by rw [z, hg] at hT; cases hT
          refine ⟨qs.map V.ref, ?_, ?_, qs ++ [T], ?_, ?_, ?_, ?_⟩
          · rw [upd_ne nT.symm]; exact hg
          · have := lotsZ_len st.2
            rw [List.length_map, lq]
            exact Nat.lt_of_le_of_lt (show i ≤ 1002 by omega) (by decide)
          · rw [upd_same, List.map_append]; rfl
          · rw [List.length_append, lq]; rfl
          · exact fun b o e => by
              rw [upd_ne (ne_of_none e hG), upd_ne (ne_of_none (s10 b o e) hT)]
              exact s10 b o e
          · intro j q' k' e1 e2
            by_cases hj : j < qs.length
            · rw [List.getElem?_append_left hj] at e1
              have old := all j q' k' e1 e2
              have n1 : q' ≠ G := fun z => by rw [z, hg] at old; cases old
              rw [upd_ne n1, upd_ne (ne_of_none old hT)]
              exact old
            · have : j = qs.length := by
                have := (List.getElem?_eq_some_iff.mp e1).1
                rw [List.length_append] at this
                simp at this
                omega
              subst this
              rw [List.getElem?_append_right (Nat.le_refl _), Nat.sub_self] at e1
              cases e1
              rw [lq, hk] at e2
              cases e2
              rw [upd_ne nT]
              exact upd_same
        · rintro H10 ⟨qs, hg, lq, s10, all⟩
          refine ⟨G, _, rfl, .inl ⟨SqL.of hg, fun l hl => ?_⟩⟩
          have s11 : Same H10 (upd H10 l (.tup (qs.map V.ref))) := same_new hl
          refine q l _ ((s1.trans z9.s).trans (s10.trans s11)) ⟨qs, upd_same, ?_, fun j q' z e1 e2 => ?_⟩
          · rw [lq, List.length_map, List.length_map]
          · rw [List.getElem?_map] at e2
            cases hk : (lotsZ st.2)[j]? with
            | none => rw [hk] at e2; cases e2
            | some k =>
              rw [hk] at e2
              cases e2
              exact s11 _ _ (all j q' k e1 hk)
end
end K37
end

section
set_option Elab.async false
set_option linter.all false
set_option maxRecDepth 100000
set_option maxHeartbeats 4000000
/-! what draws -/
namespace K37
open PySem L2 KZ
abbrev sWell : Stmt := top 36
abbrev sDraw : Stmt := top 37
abbrev sOne : Stmt := top 38
/-- at p: what draws; its cells at c -/
structure PenAt (H : Hp) (p c : Addr) (cells : List Int) (n : Nat) : Prop where
  ex : ∃ at_ great : Int, H p = some (.lst [.ref c, .int at_, .int great]) ∧ 0 ≤ at_ ∧ at_ ≤ n ∧ 0 ≤ great
  cs : H c = some (.lst (cells.map V.int))
  few : cells.length ≤ 63
  ne : p ≠ c
theorem PenAt.mono {H H' : Hp} {p c : Addr} {cells : List Int} {n m : Nat} (h : PenAt H p c cells n) (e : Same H H') (hn : n ≤ m) : PenAt H' p c cells m := by
  obtain ⟨a, g, h1, h2, h3, h4⟩ := h.ex
  exact ⟨⟨a, g, e _ _ h1, h2, by omega, h4⟩, e _ _ h.cs, h.few, h.ne⟩
/-- all but p is as it was -/
def Kept (p : Addr) (H H' : Hp) : Prop := ∀ b o, b ≠ p → H b = some o → H' b = some o
theorem Kept.trans {p : Addr} {H H1 H2 : Hp} (a : Kept p H H1) (b : Kept p H1 H2) : Kept p H H2 := fun x o hx e => b x o hx (a x o hx e)
theorem Kept.of {p : Addr} {H H1 : Hp} (a : Same H H1) : Kept p H H1 := fun x o _ e => a x o e
def spPen (K : PySem.W.Frag) : Sp := fun vs H Q _ => ∃ (a : Addr) (ns : List Int), vs = [.ref a] ∧ SqL K H a (ns.map V.int) ∧ ns.length ≤ 63 ∧
  ∀ p c cells H', H p = none → H c = none → Same H H' → PenAt H' p c cells 0 → Q (.ref p) H'
def spDraw : Sp := fun vs H Q _ => ∃ (p c : Addr) (cells : List Int) (n : Nat) (m : Int), vs = [.ref p, .int m] ∧ PenAt H p c cells n ∧ n ≤ 10000 ∧ 0 < m ∧ m ≤ 1000000000000 ∧
  ∀ r H', 0 ≤ r → r < m → PenAt H' p c cells (n + 1) → Kept p H H' → Q (.int r) H'
theorem cut63 (ns : List Int) : ∃ cells : List Int, cutV (ns.map V.int) none (some 63) = cells.map V.int ∧ cells.length ≤ ns.length := by
  refine ⟨(ns.drop (HT.sIx (ns.map V.int).length 0 none)).take (HT.sIx (ns.map V.int).length (ns.map V.int).length (some 63) - HT.sIx (ns.map V.int).length 0 none), ?_, ?_⟩
  · unfold cutV
    rw [List.map_take, List.map_drop]
  · rw [List.length_take, List.length_drop]
    omega
section
variable {P : Program} {w : World} {K : PySem.W.Frag} {mg : Str → Option Value} {base : Heap}
theorem scWell : FnScope ["script"] ["script"] (defScope sWell) := ⟨rfl, rfl, rfl, by decide +kernel, rfl, by decide +kernel, by decide +kernel⟩
theorem ok_well {f : Addr} {fd : FuncData} (F : Fun K "_law_well" "_law_well" sWell f fd) (T : B1 mg) : FnOk P w K mg base CX0 1 f fd ["script"] (spPen K) := by
  refine F.ok scWell (fun vs H Q E h => ?_) (fun cdv A outer s H vs Q E hr h => ?_)
  · obtain ⟨a, ns, rfl, _⟩ := h
    rfl
  · obtain ⟨a, ns, rfl, hs, hl, q⟩ := h
    refine ⟨_, pss_one (ps_ret (pe_lst (pa_cons (pe_callTy call_list_of (by rfl) T.list (by decide +kernel) (pa_cons (pe_slice sl_list (pv 0) po_none (po_some pe_int)) pa_nil)) (pa_cons pe_int (pa_cons pe_int pa_nil))))), ?_⟩
    obtain ⟨cells, hc, hcl⟩ := cut63 ns
    refine ⟨_, rfl, 63, rfl, a, _, rfl, hs, fun l hn => ⟨l, _, rfl, .inl (SqL.of upd_same), fun D hD => ⟨by show 3 ≤ sizeLine; decide, fun p hp => ?_⟩⟩⟩
    rw [hc] at hD hp ⊢
    have hlD : l ≠ D := fun z => by
      rw [← z, upd_same] at hD
      cases hD
    have hDn : H D = none := by
      rw [upd_ne (Ne.symm hlD)] at hD
      exact hD
    have hpD : p ≠ D := fun z => by
      rw [z, upd_same] at hp
      cases hp
    have hpl : p ≠ l := fun z => by
      rw [z, upd_ne hlD, upd_same] at hp
      cases hp
    have hpn : H p = none := by
      rw [upd_ne hpD, upd_ne hpl] at hp
      exact hp
    exact q p D cells _ hpn hDn ((same_new hn).trans ((same_new (show (upd H l (.lst (cells.map V.int))) D = none from by rw [upd_ne (Ne.symm hlD)]; exact hDn)).trans (same_new hp))) ⟨⟨0, 0, upd_same, by decide, by decide, by decide⟩, by rw [upd_ne (Ne.symm hpD), upd_same], Nat.le_trans hcl hl, hpD⟩
theorem dp_ints {H : Hp} : ∀ (l : List Int), DpAll K H (l.map V.int) (l.map PyData.int)
  | [] => .nil
  | i :: r => .cons (.int i) (dp_ints r)
theorem can_ints : ∀ l : List Int, PyData.canLayAll0 (l.map PyData.int) = true
  | [] => rfl
  | i :: r => by
    show (PyData.canLay0 (.int i) && PyData.canLayAll0 (r.map PyData.int)) = true
    rw [can_ints r]
    rfl
theorem depth_ints : ∀ l : List Int, PyData.depthAll (l.map PyData.int) = 0
  | [] => rfl
  | i :: r => by
    show max (PyData.depth (.int i)) (PyData.depthAll (r.map PyData.int)) = 0
    rw [depth_ints r]
    rfl
theorem shaped_ints (l : List Int) : SeqAt.shaped (.list (l.map PyData.int)) = true := by
  unfold SeqAt.shaped
  have h1 : PyData.canLay0 (.list (l.map PyData.int)) = true := can_ints l
  have h2 : PyData.depth (.list (l.map PyData.int)) ≤ 64 := by
    show PyData.depthAll (l.map PyData.int) + 1 ≤ 64
    rw [depth_ints]
    decide
  rw [h1, decide_eq_true h2]
  rfl
theorem eqv_nil (l : List Int) : PyData.eqv (.list (l.map PyData.int)) (.list []) = l.isEmpty := by
  cases l <;> rfl
theorem scDraw : FnScope ["well", "many", "digit", "turn", "cell", "great", "mixed"] ["well", "many"] (defScope sDraw) := ⟨rfl, rfl, rfl, by decide +kernel, rfl, by decide +kernel, by decide +kernel⟩
theorem pow_b {x : Int} {b : Nat} (h1 : 0 ≤ x) (h2 : x < 2 ^ 63) : CPow x (b : Int) ↔ (b ≤ 1000000) := by
  unfold CPow
  constructor
  · rintro ⟨_, h, _⟩
    omega
  · intro h
    refine ⟨by omega, by omega, ?_⟩
    omega
theorem if_setI {b : Bool} {te : TE} {i : Nat} {D : Ends} {σ : L2.St} {H : Hp} (h1 : b = true → ∀ Q : VK, (∀ z : Int, Q (.int z) H) → te σ H Q) (h0 : ∃ z0 : Int, σ = σ.set i (some (.int z0))) (rest : ∀ z : Int, D.nx (σ.set i (some (.int z))) H) :
    if b = true then tAsg te (gName i) D σ H else D.nx σ H := by
  cases b with
  | true => exact iteT (h1 rfl _ fun z => rest z)
  | false =>
    obtain ⟨z0, e⟩ := h0
    rw [e]
    exact iteF (rest z0)
theorem if_and {t u : TT} {s1 s2 : TS} {D : Ends} {σ : L2.St} {H : Hp} (b1 b2 : Bool) (h1 : ∀ Q : Bool → Hp → Prop, Q b1 H → t σ H Q) (h2 : b1 = true → ∀ Q : Bool → Hp → Prop, Q b2 H → u σ H Q) (tail : s2 D σ H) (go : b1 = true → b2 = true → s1 { D with nx := s2 D } σ H) :
    tSeq (tIfS (tAnd t u) s1 tNext) s2 D σ H := by
  refine h1 _ ?_
  cases b1 with
  | false => exact iteF (iteF tail)
  | true =>
    refine iteT (h2 rfl _ ?_)
    cases b2 with
    | false => exact iteF tail
    | true => exact iteT (go rfl rfl)
theorem ok_draw {f : Addr} {fd : FuncData} (F : Fun K "_law_draw" "_law_draw" sDraw f fd) (T : B1 mg) : FnOk P w K mg base CX0 1 f fd ["well", "many"] spDraw := by
  refine F.ok scDraw (fun vs H Q E h => ?_) (fun cdv A outer s H vs Q E hr h => ?_)
  · obtain ⟨p, c, cells, n, m, rfl, _⟩ := h
    rfl
  · obtain ⟨p, c, cells, n, m, rfl, pen, hn, hm0, hm1, q⟩ := h
    obtain ⟨at_, gr, hp, ha0, ha1, hg0⟩ := pen.ex
    have hcs := pen.cs
    have npc := pen.ne
    have hlog : m.natAbs.log2 < 9000 := (Nat.log2_lt (by omega)).mpr (Nat.lt_of_lt_of_le (show m.natAbs < 2 ^ 40 by omega) (Nat.pow_le_pow_right (by decide) (by decide)))
    refine ⟨_, (pss_cons (ps_if (pt_cmpR op_gt (pe_ix ix_list (pv 0) pe_int (fun _ _ => rfl)) pe_int (nomark _))
(pss_cons (ps_set (i := 2) scDraw.nd rfl (Or.inl rfl) (pe_op op_mod (pe_callTy call_int1 (by rfl) T.int (by decide +kernel) (pa_cons (pe_ix ix_list (pv 0) pe_int (fun _ _ => rfl)) pa_nil)) (pv 1)))
(pss_cons (ps_asg (pe_op op_fdivW (pe_callTy call_int1 (by rfl) T.int (by decide +kernel) (pa_cons (pe_ix ix_list (pv 0) pe_int (fun _ _ => rfl)) pa_nil)) (pv 1)) (pg_sub (pv 0) pe_int set_list))
(pss_one (ps_ret (pv 2)))))
pss_nil)
(pss_cons (ps_set (i := 3) scDraw.nd rfl (Or.inl rfl) (pe_ix ix_list (pv 0) pe_int (fun _ _ => rfl)))
(pss_cons (ps_asg (pe_op op_add (pv 3) pe_int) (pg_sub (pv 0) pe_int set_list))
(pss_cons (ps_set (i := 4) scDraw.nd rfl (Or.inl rfl) (pe_op op_add (pe_op op_mul pe_int (pv 3)) pe_int))
(pss_cons (ps_if (pt_cmpR (op_neD hr.units) (pe_ix ix_list (pv 0) pe_int (fun _ _ => rfl)) (pe_lst pa_nil) (nomark _))
(pss_one (ps_set (i := 4) scDraw.nd rfl (Or.inl rfl) (pe_ix ix_list (pe_ix ix_list (pv 0) pe_int (fun _ _ => rfl)) (pe_op op_mod (pe_callTy call_int1 (by rfl) T.int (by decide +kernel) (pa_cons (pv 3) pa_nil)) (pe_callB call_len (by rfl) T.len PySem.boot_len (pa_cons (pe_ix ix_list (pv 0) pe_int (fun _ _ => rfl)) pa_nil))) (fun _ _ => rfl))))
pss_nil)
(pss_cons (ps_if (PW.pt (pw_and (pt_cmpR op_lt (pv 3) (pe_callB call_len (by rfl) T.len PySem.boot_len (pa_cons (pe_ix ix_list (pv 0) pe_int (fun _ _ => rfl)) pa_nil)) (nomark _)) (pw_and1 (pt_cmpR op_ge (pe_callB call_abs (by rfl) T.abs (by decide +kernel) (pa_cons (pv 4) pa_nil)) (pe_op op_pow pe_int pe_int) (nomark _)))))
(pss_cons (ps_set (i := 5) scDraw.nd rfl (Or.inl rfl) (pe_op op_add (pe_op op_mul pe_int (pe_op op_sub (pe_callB call_abs (by rfl) T.abs (by decide +kernel) (pa_cons (pv 4) pa_nil)) (pe_op op_pow pe_int pe_int))) (pe_callTy call_int1 (by rfl) T.int (by decide +kernel) (pa_cons (pe_cmpR op_lt (pv 4) pe_int (nomark _)) pa_nil))))
(pss_cons (ps_asg (pe_op op_fdivW (pe_callTy call_int1 (by rfl) T.int (by decide +kernel) (pa_cons (pv 5) pa_nil)) (pv 1)) (pg_sub (pv 0) pe_int set_list))
(pss_one (ps_ret (pe_op op_mod (pe_callTy call_int1 (by rfl) T.int (by decide +kernel) (pa_cons (pv 5) pa_nil)) (pv 1))))))
pss_nil)
(pss_cons (ps_set (i := 6) scDraw.nd rfl (Or.inl rfl) (pe_op op_mod (pe_callTy call_int1 (by rfl) T.int (by decide +kernel) (pa_cons (pe_op op_pow (pe_op op_add (pe_op op_add (pe_op op_mod (pe_callTy call_int1 (by rfl) T.int (by decide +kernel) (pa_cons (pv 4) pa_nil)) pe_int) (pe_op op_mul pe_int (pv 3))) pe_int) pe_int) pa_nil)) pe_int))
(pss_cons (ps_set (i := 6) scDraw.nd rfl (Or.inl rfl) (pe_op op_mod (pe_callTy call_int1 (by rfl) T.int (by decide +kernel) (pa_cons (pe_op op_pow (pe_op op_add (pe_op op_add (pe_op op_mul (pv 6) (pe_op op_add (pe_op op_mul pe_int (pv 3)) pe_int)) (pe_op op_mul (pe_op op_mul pe_int (pv 3)) (pv 3))) pe_int) pe_int) pa_nil)) pe_int))
(pss_one (ps_ret (pe_op op_mod (pe_callTy call_int1 (by rfl) T.int (by decide +kernel) (pa_cons (pe_op op_fdiv (pv 6) pe_int) pa_nil)) (pv 1)))))))))))), ?_⟩
    have i2 : atI [V.ref c, V.int at_, V.int gr] 2 = some (V.int gr) := rfl
    have i1 : atI [V.ref c, V.int at_, V.int gr] 1 = some (V.int at_) := rfl
    have i0 : ∀ z, atI [V.ref c, V.int z, V.int gr] 0 = some (V.ref c) := fun _ => rfl
    refine ⟨_, rfl, p, _, 2, _, rfl, rfl, SqL.of hp, i2, gr, 0, rfl, rfl, _, rfl, ?_⟩
    refine ite2 (fun hg => ?_) (fun hg => ?_)
    · have hg' : 0 < gr := of_decide_eq_true hg
      refine ⟨_, rfl, p, _, 2, _, rfl, rfl, SqL.of hp, i2, .inl ⟨gr, rfl, _, rfl, gr, m, rfl, rfl, hm0, ?_⟩⟩
      refine ⟨_, rfl, p, _, 2, _, rfl, rfl, SqL.of hp, i2, .inl ⟨gr, rfl, _, rfl, gr, m, rfl, rfl, ⟨hm0, hlog⟩, ?_⟩⟩
      refine ⟨_, rfl, p, _, 2, 2, rfl, rfl, hp, rfl, _, rfl, ?_⟩
      refine q (gr % m) _ (Int.emod_nonneg _ (by omega)) (Int.emod_lt_of_pos _ hm0) ⟨⟨at_, gr / m, upd_same, ha0, by omega, Int.ediv_nonneg hg0 (by omega)⟩, by rw [upd_ne (Ne.symm npc)]; exact hcs, pen.few, npc⟩ (fun b o hb e => by rw [upd_ne hb]; exact e)
    · have hg' : gr = 0 := by
        have : ¬ 0 < gr := fun z => hg (decide_eq_true z)
        omega
      refine ⟨_, rfl, p, _, 1, _, rfl, rfl, SqL.of hp, i1, ?_⟩
      refine ⟨_, rfl, at_, 1, rfl, rfl, _, rfl, p, _, 1, 1, rfl, rfl, hp, rfl, ?_⟩
      obtain ⟨H1, hH1⟩ : ∃ H1, H1 = upd H p (.lst [V.ref c, V.int (at_ + 1), V.int gr]) := ⟨_, rfl⟩
      have h1p : H1 p = some (.lst [V.ref c, V.int (at_ + 1), V.int gr]) := by rw [hH1, upd_same]
      have h1c : H1 c = some (.lst (cells.map V.int)) := by rw [hH1, upd_ne (Ne.symm npc)]; exact hcs
      have k1 : Kept p H H1 := fun b o hb e => by rw [hH1, upd_ne hb]; exact e
      show _
      rw [show upd H p (HO.lst ([V.ref c, V.int at_, V.int gr].set 1 (V.int (at_ + 1)))) = H1 from hH1.symm]
      refine ⟨_, rfl, 81623, at_, rfl, rfl, .inl ⟨by decide, by decide⟩, _, _, rfl, rfl, ?_⟩
      refine ⟨_, rfl, p, _, 0, _, rfl, rfl, SqL.of h1p, rfl, Nat.zero_le _, fun l hl => ?_⟩
      have k2 : Same H1 (upd H1 l (.lst [])) := same_new hl
      refine ⟨_, _, Dp.lst (SqL.of (k2 _ _ h1c)) (dp_ints cells), Dp.lst (SqL.of upd_same) .nil, shaped_ints cells, by decide +kernel, _, rfl, ?_⟩
      -- behind the cell is taken
      obtain ⟨H2, hH2⟩ : ∃ H2, H2 = upd H1 l (.lst []) := ⟨_, rfl⟩
      rw [← hH2] at k2 ⊢
      have h2p := k2 _ _ h1p
      have h2c := k2 _ _ h1c
      have k3 : Kept p H H2 := k1.trans (Kept.of k2)
      have fin : ∀ (gr' : Int) (H3 : Hp), 0 ≤ gr' → H3 = upd H2 p (.lst [V.ref c, V.int (at_ + 1), V.int gr']) ∨ (H3 = H2 ∧ gr' = gr) → PenAt H3 p c cells (n + 1) ∧ Kept p H H3 := fun gr' H3 g0 e => by
        rcases e with e | ⟨e, e'⟩
        · rw [e]
          exact ⟨⟨⟨_, gr', upd_same, by omega, by omega, g0⟩, by rw [upd_ne (Ne.symm npc)]; exact h2c, pen.few, npc⟩, fun b o hb z => by rw [upd_ne hb]; exact k3 b o hb z⟩
        · rw [e]
          exact ⟨⟨⟨_, gr, h2p, by omega, by omega, hg0⟩, h2c, pen.few, npc⟩, k3⟩
      refine if_setI (fun hb Q' k => ?_) ⟨_, rfl⟩ (fun z => ?_)
      · have hne : cells ≠ [] := fun e => by
          rw [eqv_nil, e] at hb
          cases hb
        have hl0 : 0 < cells.length := List.length_pos_iff.mpr hne
        have hr0 : 0 ≤ at_ % (cells.length : Int) := Int.emod_nonneg _ (by omega)
        have hr1 : at_ % (cells.length : Int) < cells.length := Int.emod_lt_of_pos _ (by omega)
        obtain ⟨j, hj⟩ : ∃ j : Nat, at_ % (cells.length : Int) = j := ⟨_, (Int.toNat_of_nonneg hr0).symm⟩
        have hjl : j < cells.length := by omega
        refine ⟨_, rfl, p, _, 0, _, rfl, rfl, SqL.of h2p, rfl, _, rfl, .inl ⟨at_, rfl, _, rfl, p, _, 0, _, rfl, rfl, SqL.of h2p, rfl, .ref c, cells.length, rfl, .inl ⟨_, SqL.of h2c, by rw [List.length_map]⟩, at_, cells.length, rfl, rfl, by omega, ?_⟩⟩
        refine ⟨c, _, _, .int (cells[j]'hjl), rfl, rfl, SqL.of h2c, ?_, k _⟩
        rw [hj]
        exact atI_nat (by simp [hjl])
      · dsimp only
        refine if_and (decide (at_ < (cells.length : Int))) (decide ((10 : Int) ^ (18 : Int).toNat ≤ (if z < 0 then -z else z))) (fun Q' k => ?_) (fun _ Q' k => ?_) ?_ (fun _ hbig => ?_)
        · exact ⟨_, rfl, _, rfl, p, _, 0, _, rfl, rfl, SqL.of h2p, rfl, .ref c, cells.length, rfl, .inl ⟨_, SqL.of h2c, by rw [List.length_map]⟩, at_, cells.length, rfl, rfl, _, rfl, k⟩
        · exact ⟨_, rfl, z, rfl, 10, 18, rfl, rfl, ⟨by decide, by decide, by decide⟩, _, _, rfl, rfl, _, rfl, k⟩
        · have b0 : 0 ≤ z % 2147483549 := Int.emod_nonneg _ (by decide)
          have b1 : z % 2147483549 < 2147483549 := Int.emod_lt_of_pos _ (by decide)
          have b2 : at_ ≤ 10000 := by omega
          refine ⟨_, rfl, .inl ⟨z, rfl, z, 2147483549, rfl, rfl, (show (0 : Int) < 2147483549 by decide), _, rfl, 100183, at_, rfl, rfl, .inl ⟨by decide, by decide⟩, _, _, rfl, rfl, _, _, rfl, rfl, _, 5, rfl, rfl, ⟨by decide, by decide, by omega⟩, .inl ⟨_, rfl, _, 2147483543, rfl, rfl, (show (0 : Int) < 2147483543 by decide), ?_⟩⟩⟩
          dsimp only
          generalize (z % 2147483549 + 100183 * at_ + 1201) ^ (5 : Int).toNat = big1
          have c0 : 0 ≤ big1 % 2147483543 := Int.emod_nonneg _ (by decide)
          have c1 : big1 % 2147483543 < 2147483543 := Int.emod_lt_of_pos _ (by decide)
          generalize hmx : big1 % 2147483543 = mx at c0 c1 ⊢
          have c2 : 0 ≤ mx * (2 * at_ + 443) := Int.mul_nonneg c0 (by omega)
          have c3 : mx * (2 * at_ + 443) ≤ 2147483543 * 20443 := Int.mul_le_mul (by omega) (by omega) (by omega) (by decide)
          have c4 : 0 ≤ 81371 * at_ * at_ := Int.mul_nonneg (by omega) ha0
          have c5 : 81371 * at_ * at_ ≤ 813710000 * 10000 := Int.mul_le_mul (by omega) b2 ha0 (by decide)
          refine ⟨_, rfl, _, rfl, 2, at_, rfl, rfl, .inl ⟨by decide, by decide⟩, _, _, rfl, rfl, mx, _, rfl, rfl, .inl ⟨by omega, by omega⟩, _, rfl, 81371, at_, rfl, rfl, .inl ⟨by decide, by decide⟩, _, rfl, _, at_, rfl, rfl, .inl ⟨by omega, by omega⟩, _, _, rfl, rfl, _, _, rfl, rfl, _, 3, rfl, rfl, ⟨by decide, by decide, by omega⟩, .inl ⟨_, rfl, _, 2147483489, rfl, rfl, (show (0 : Int) < 2147483489 by decide), ?_⟩⟩
          dsimp only
          generalize (mx * (2 * at_ + 443) + 81371 * at_ * at_ + 97) ^ (3 : Int).toNat = big2
          refine ⟨_, rfl, _, 32, rfl, rfl, ⟨by decide, by decide⟩, .inl ⟨_, rfl, _, rfl, _, m, rfl, rfl, hm0, ?_⟩⟩
          obtain ⟨f1, f2⟩ := fin gr H2 hg0 (.inr ⟨rfl, rfl⟩)
          exact q _ _ (Int.emod_nonneg _ (by omega)) (Int.emod_lt_of_pos _ hm0) f1 f2
        · have hz0 : ∀ b : Bool, (0 : Int) ≤ 2 * ((if z < 0 then -z else z) - 10 ^ (18 : Int).toNat) + (if b = true then 1 else 0) := fun b => by
            have h1 : (10 : Int) ^ (18 : Int).toNat ≤ (if z < 0 then -z else z) := of_decide_eq_true hbig
            have h2 : (0 : Int) ≤ (if b = true then 1 else 0) := by cases b <;> decide
            omega
          refine ⟨_, rfl, z, rfl, 10, 18, rfl, rfl, ⟨by decide, by decide, by decide⟩, _, _, rfl, rfl, 2, _, rfl, rfl, .inl ⟨by decide, by decide⟩, _, rfl, z, 0, rfl, rfl, .inr ⟨_, rfl, _, _, rfl, rfl, ?_⟩⟩
          dsimp only
          have hz1 := hz0 (decide (z < 0))
          generalize 2 * ((if z < 0 then -z else z) - 10 ^ (18 : Int).toNat) + (if decide (z < 0) = true then 1 else 0) = gg at hz1 ⊢
          refine ⟨_, rfl, .inl ⟨gg, rfl, _, rfl, gg, m, rfl, rfl, ⟨hm0, hlog⟩, _, rfl, p, _, 2, 2, rfl, rfl, h2p, rfl, _, rfl, .inl ⟨gg, rfl, _, rfl, gg, m, rfl, rfl, hm0, ?_⟩⟩⟩
          obtain ⟨f1, f2⟩ := fin (gg / m) _ (Int.ediv_nonneg hz1 (by omega)) (.inl rfl)
          exact q _ _ (Int.emod_nonneg _ (by omega)) (Int.emod_lt_of_pos _ hm0) f1 f2
theorem scOne : FnScope ["well", "some"] ["well", "some"] (defScope sOne) := ⟨rfl, rfl, rfl, by decide +kernel, rfl, by decide +kernel, by decide +kernel⟩
def spOne : Sp := fun vs H Q _ => ∃ (p c s : Addr) (cells : List Int) (n : Nat) (xs : List V), vs = [.ref p, .ref s] ∧ PenAt H p c cells n ∧ n ≤ 10000 ∧ H s = some (.lst xs) ∧ s ≠ p ∧ 0 < xs.length ∧ xs.length ≤ 100 ∧
  ∀ (i : Nat) (x : V) H', xs[i]? = some x → PenAt H' p c cells (n + 1) → Kept p H H' → Q x H'
theorem ok_one {f fD : Addr} {fd dD : FuncData} (F : Fun K "_law_one" "_law_one" sOne f fd) (T : B1 mg) (gD : mg "_law_draw" = some (.ref fD)) (FD : Fun K "_law_draw" "_law_draw" sDraw fD dD) (bD : Binds K dD ["well", "many"] []) : FnOk P w K mg base CX0 2 f fd ["well", "some"] spOne := by
  have GD : FnOk P w K mg base CX0 1 fD dD ["well", "many"] spDraw := ok_draw FD T
  refine F.ok scOne (fun vs H Q E h => ?_) (fun cdv A outer s H vs Q E hr h => ?_)
  · obtain ⟨p, c, s, cells, n, xs, rfl, _⟩ := h
    rfl
  · obtain ⟨p, c, s, cells, n, xs, rfl, pen, hn, hs, nsp, hx0, hx1, q⟩ := h
    refine ⟨_, (pss_one (ps_ret (pe_ix (ix_seqK K) (pv 1) (pe_call GD hr (by rfl) gD FD.kp bD .nil pass0 (pa_cons (pv 0) (pa_cons (pe_callB call_len (by rfl) T.len PySem.boot_len (pa_cons (pv 1) pa_nil)) pa_nil))) (fun _ _ => rfl)))), ?_⟩
    refine ⟨_, rfl, _, rfl, _, rfl, .ref s, xs.length, rfl, .inl ⟨xs, SqL.of hs, rfl⟩, p, c, cells, n, xs.length, rfl, pen, hn, by omega, by omega, fun r H' r0 r1 pen' kp => ?_⟩
    obtain ⟨j, hj⟩ : ∃ j : Nat, r = j := ⟨_, (Int.toNat_of_nonneg r0).symm⟩
    have hjl : j < xs.length := by omega
    have e : xs[j]? = some (xs[j]'hjl) := List.getElem?_eq_getElem hjl
    exact Sq.ix (.inl (SqL.of (kp s _ nsp hs))) (by rw [hj]; exact atI_nat e) (q j _ H' e pen' kp)
end
end K37
end

section
set_option Elab.async false
set_option linter.all false
set_option maxRecDepth 100000
set_option maxHeartbeats 4000000
/-! the law's rows -/
namespace K37
open PySem L2 KZ
abbrev sMade : Stmt := top 40
abbrev sLParts : Stmt := top 41
def rowV (r : Row) : List V := [.str r.c, .str (wd r.g), .int r.b, oV r.e, oV r.t]
def RowAt (H : Hp) (p : Addr) (r : Row) : Prop := H p = some (.tup (rowV r))
/-- a list of rows -/
def RowsAt (H : Hp) (a : Addr) (rs : List Row) : Prop := ∃ ps : List Addr, H a = some (.lst (ps.map V.ref)) ∧ ps.length = rs.length ∧ ∀ (i : Nat) p r, ps[i]? = some p → rs[i]? = some r → RowAt H p r
theorem RowsAt.mono {H H' : Hp} {a : Addr} {rs : List Row} (s : Same H H') (h : RowsAt H a rs) : RowsAt H' a rs := by
  obtain ⟨ps, h1, h2, h3⟩ := h
  exact ⟨ps, s _ _ h1, h2, fun i p r e1 e2 => s _ _ (h3 i p r e1 e2)⟩
theorem oD_dv {K : PySem.W.Frag} {H : Hp} (o : Option Int) : Dv K H (oV o) (oD o) := by
  cases o with
  | none => exact .non
  | some i => exact .int i
def spMade (C : Addr) : Sp := fun vs H Q _ => ∃ t r, vs = [.ref t] ∧ RowAt H t r ∧ r.Ok ∧ r.c.length ≤ 1000 ∧ ∀ x H', H x = none → Same H H' → AskAt C H' x r → Q (.ref x) H'
section
variable {P : Program} {w : World} {K : PySem.W.Frag} {mg : Str → Option Value} {base : Heap} {fI C cB : Addr} {dI : FuncData}
theorem scMade : FnScope ["row"] ["row"] (defScope sMade) := ⟨rfl, rfl, rfl, by decide +kernel, rfl, by decide +kernel, by decide +kernel⟩
theorem ok_made {f : Addr} {fd : FuncData} (F : Fun K "_law_made" "_law_made" sMade f fd) (A : AskC K mg C) (M : Mk K C fI) (GI : FnOk P w K mg base (L2.CX P w) 8 fI dI ["self", "client", "word", "begun", "ended", "told"] (spInit K C cB)) (bI : Binds K dI ["self", "client", "word", "begun", "ended", "told"] []) :
    FnOk P w K mg base (L2.CX P w) 10 f fd ["row"] (spMade C) := by
  refine F.okX scMade (fun vs H Q E h => ?_) (fun cdv A' outer s H vs Q E hr h => ?_)
  · obtain ⟨t, r, rfl, _⟩ := h
    rfl
  · obtain ⟨t, r, rfl, ht, ok, cl, q⟩ := h
    refine ⟨_, pss_one (ps_ret (pe_make M GI hr (by rfl) A.mg bI .nil (passes_call (takes_of rfl rfl rfl rfl) fun _ _ _ _ z => z) (pa_cons (pe_ix (ix_seqK K) (pv 0) pe_int (fun _ _ => rfl)) (pa_cons (pe_ix (ix_seqK K) (pv 0) pe_int (fun _ _ => rfl)) (pa_cons (pe_ix (ix_seqK K) (pv 0) pe_int (fun _ _ => rfl)) (pa_cons (pe_ix (ix_seqK K) (pv 0) pe_int (fun _ _ => rfl)) (pa_cons (pe_ix (ix_seqK K) (pv 0) pe_int (fun _ _ => rfl)) pa_nil))))))), ?_⟩
    have sq : Sq K H t (rowV r) := .inr (SqT.of ht)
    refine ⟨.ref t, rfl, Sq.ix sq rfl ⟨.ref t, rfl, Sq.ix sq rfl ⟨.ref t, rfl, Sq.ix sq rfl ⟨.ref t, rfl, Sq.ix sq rfl ⟨.ref t, rfl, Sq.ix sq rfl ?_⟩⟩⟩⟩⟩
    refine fun x dx hx hdx ne => ?_
    have s1 : Same H (upd H dx (.own x)) := same_new hdx
    have s2 : Same H (upd (upd H dx (.own x)) x (.ins C dx [])) := s1.trans (same_new (by rw [upd_ne ne.symm]; exact hx))
    refine ⟨x, dx, _, .str r.c, _, .str (wd r.g), _, .int r.b, _, oD r.e, _, oD r.t, rfl, upd_same, .str _, (fun y e => by cases e; exact cl), .str _, rfl, (by cases r.g <;> decide +kernel), .int _, oD_dv _, oD_dv _, ?_, ?_⟩
    · intro r' ok' e1 e2 e3 e4 e5 H' keep ask
      obtain rfl : r' = r := by
        obtain ⟨c1, g1, b1, e1', t1⟩ := r
        obtain ⟨c2, g2, b2, e2', t2⟩ := r'
        have h1 : c1 = c2 := PyData.str.inj e1
        have h2 : g1 = g2 := by
          have h : wd g1 = wd g2 := PyData.str.inj e2
          clear e1 e2 e3 e4 e5 ok ok' ht q keep ask
          cases g1 <;> cases g2
          · rfl
          · exact absurd h (show ¬ wd false = wd true by decide +kernel)
          · exact absurd h (show ¬ wd true = wd false by decide +kernel)
          · rfl
        have h3 : b1 = b2 := PyData.int.inj e3
        have h4 : e1' = e2' := by
          cases e1' <;> cases e2' <;> first | rfl | (cases e4; done) | (cases e4; rfl)
        have h5 : t1 = t2 := by
          cases t1 <;> cases t2 <;> first | rfl | (cases e5; done) | (cases e5; rfl)
        rw [h1, h2, h3, h4, h5]
      exact ⟨rfl, q x H' hx (fun b o e => keep b o (ne_of_none e hx) (s2 b o e)) ask⟩
    · intro p h
      rw [bad_of ok] at h
      cases h
theorem op_in_seqK {X : Cx} (K : PySem.W.Frag) (h : X.K = K := by rfl) : OpR X (compareOp .In) (rIn K false) := by subst h; exact op_in_seq
theorem pg_tupK {X : Cx} {es : List Expr} {k : Nat} {pos : Pos} {t : TGs} {n : Nat} (K : PySem.W.Frag) (hc : X.calm = true) (h : PGs X es t) (hK : X.K = K := by rfl) (hn : (assignEach es X.env).length = n := by rfl) (hst : (assignEach es X.env).findIdx? (·.1) = none := by rfl) : PG X (.Tuple es k pos) (gTup K n t) := by
  subst hK
  exact pg_tup hc h hn hst
def toldI (rs : List Row) : List Int := rs.filterMap (·.t)
theorem told_any {rs : List Row} (ok : ∀ r ∈ rs, r.Ok) (i : Int) : isTold rs (some i) = (toldI rs).any fun j => decide (j = i) := by
  unfold isTold toldI
  rw [Bool.eq_iff_iff, List.any_eq_true, List.any_eq_true]
  constructor
  · rintro ⟨r, m, h⟩
    rw [Bool.and_eq_true] at h
    exact ⟨i, List.mem_filterMap.mpr ⟨r, m, of_decide_eq_true h.2⟩, decide_eq_true rfl⟩
  · rintro ⟨j, m, h⟩
    obtain ⟨r, mr, e⟩ := List.mem_filterMap.mp m
    obtain rfl := of_decide_eq_true h
    obtain ⟨g1, g2, _⟩ := (ok r mr).tg j e
    refine ⟨r, mr, ?_⟩
    rw [Bool.and_eq_true]
    refine ⟨?_, decide_eq_true e⟩
    unfold tells
    rw [g1]
    cases he : r.e with
    | none => exact absurd he g2
    | some x => rfl
theorem part_any {rs : List Row} (ok : ∀ r ∈ rs, r.Ok) (nb : firstBad rs = none) {i : Nat} {r : Row} (hr : rs[i]? = some r) : isPart rs i = (r.e.isSome || (toldI rs).any fun j => decide (j = (i : Int))) := by
  unfold isPart
  rw [hr]
  show (r.e.isSome || (!r.g && isTold rs (some (i : Int)))) = _
  rw [told_any ok]
  cases h : (toldI rs).any fun j => decide (j = (i : Int)) with
  | false => rw [Bool.and_false]
  | true =>
    obtain ⟨j, m, e⟩ := List.any_eq_true.mp h
    obtain rfl := of_decide_eq_true e
    obtain ⟨q, mq, eq⟩ := List.mem_filterMap.mp m
    obtain ⟨n, hn, en⟩ := List.mem_iff_getElem.mp mq
    unfold firstBad at nb
    rw [List.find?_range_eq_none] at nb
    have := nb n hn
    unfold badAt at this
    rw [List.getElem?_eq_getElem hn, en] at this
    have this : (!(match q.t with
      | none => false
      | some j => decide ((rs.length : Int) ≤ j) || (match rs[j.toNat]? with
        | some r => r.g
        | none => true))) = true := this
    rw [eq] at this
    have e2 : rs[((i : Int)).toNat]? = some r := hr
    have this : (!(decide ((rs.length : Int) ≤ (i : Int)) || (match rs[((i : Int)).toNat]? with
      | some r => r.g
      | none => true))) = true := this
    rw [e2] at this
    have this : (!(decide ((rs.length : Int) ≤ (i : Int)) || r.g)) = true := this
    have g0 : r.g = false := by
      cases hg : r.g with
      | false => rfl
      | true => rw [hg, Bool.or_true] at this; cases this
    rw [g0]
    rfl
end
end K37
end

section
set_option Elab.async false
set_option linter.all false
set_option maxRecDepth 100000
set_option maxHeartbeats 4000000
/-! the zones of the program are those of the law: their numbers -/
namespace K37
open PySem L2 KZ
/-- the asks of l of the lot k -/
def mineR (rs : List Row) (k : Option Int) (l : List Nat) : List Row := l.filterMap fun i => (rs[i]?).bind fun r => if lotOf r i = k then some r else none
def accB (o : Option Int) (bs : List Int) : Option Int := bs.foldl (fun o b => some (max2 (o.getD b) b)) o
def accE (o : Option Int) (es : List Int) : Option Int := es.foldl (fun o e => some (min2 (o.getD e) e)) o
theorem mineR_cons (rs : List Row) (k : Option Int) (i : Nat) (l : List Nat) : mineR rs k (i :: l) = (match rs[i]? with
    | some r => if lotOf r i = k then [r] else []
    | none => []) ++ mineR rs k l := by
  unfold mineR
  rw [List.filterMap_cons]
  cases h : rs[i]? with
  | none => simp [h]
  | some r =>
    by_cases hk : lotOf r i = k
    · simp [h, hk]
    · simp [h, hk]
theorem fold_begins (rs : List Row) (k : Option Int) : ∀ (l : List Nat) (st : KI × KI), getO (l.foldl (stepZ rs) st).2 k = accB (getO st.2 k) ((mineR rs k l).map (·.b))
  | [], st => rfl
  | i :: l, st => by
    rw [List.foldl_cons, fold_begins rs k l, mineR_cons]
    cases h : rs[i]? with
    | none => rw [stepZ_none h]; rfl
    | some r =>
      rw [stepZ_some h]
      show accB (getO (begR st.2 i r) k) _ = _
      unfold begR
      rw [getO_set]
      by_cases hk : lotOf r i = k
      · rw [if_pos hk.symm]
        simp only [hk, if_true]
        rfl
      · rw [if_neg fun z => hk z.symm]
        simp only [hk, if_false]
        rfl
theorem fold_ends (rs : List Row) (k : Option Int) : ∀ (l : List Nat) (st : KI × KI), getO (l.foldl (stepZ rs) st).1 k = accE (getO st.1 k) ((mineR rs k l).filterMap (·.e))
  | [], st => rfl
  | i :: l, st => by
    rw [List.foldl_cons, fold_ends rs k l, mineR_cons]
    cases h : rs[i]? with
    | none => rw [stepZ_none h]; rfl
    | some r =>
      rw [stepZ_some h]
      show accE (getO (endR st.1 i r) k) _ = _
      by_cases hk : lotOf r i = k
      · simp only [hk, if_true]
        unfold endR
        cases he : r.e with
        | none => simp [he]
        | some x =>
          show accE (getO (setO st.1 _ _) k) _ = _
          rw [getO_set, if_pos hk.symm]
          simp only [List.cons_append, List.nil_append, List.filterMap_cons, he, hk]
          rfl
      · simp only [hk, if_false]
        unfold endR
        cases he : r.e with
        | none => rfl
        | some x =>
          show accE (getO (setO st.1 _ _) k) _ = _
          rw [getO_set, if_neg fun z => hk z.symm]
          rfl
theorem mem_mine {rs : List Row} {k : Option Int} {l : List Nat} {r : Row} : r ∈ mineR rs k l ↔ ∃ i ∈ l, rs[i]? = some r ∧ lotOf r i = k := by
  unfold mineR
  rw [List.mem_filterMap]
  constructor
  · rintro ⟨i, m, h⟩
    cases hr : rs[i]? with
    | none => rw [hr] at h; cases h
    | some q =>
      rw [hr] at h
      have h : (if lotOf q i = k then some q else none) = some r := h
      by_cases hk : lotOf q i = k
      · rw [if_pos hk] at h
        cases h
        exact ⟨i, m, hr, hk⟩
      · rw [if_neg hk] at h
        cases h
  · rintro ⟨i, m, h, hk⟩
    refine ⟨i, m, ?_⟩
    rw [h]
    show (if lotOf r i = k then some r else none) = some r
    rw [if_pos hk]
theorem mine_none {rs : List Row} (h : isTold rs none = true) : ∃ r, r ∈ mineR rs none (partsOf rs) := by
  unfold isTold at h
  obtain ⟨r, m, t⟩ := List.any_eq_true.mp h
  obtain ⟨j, hj, ej⟩ := List.mem_iff_getElem.mp m
  rw [Bool.and_eq_true] at t
  obtain ⟨t3, t4⟩ := t
  unfold tells at t3
  rw [Bool.and_eq_true] at t3
  have ej2 : rs[j]? = some r := by rw [List.getElem?_eq_getElem hj, ej]
  refine ⟨r, mem_mine.mpr ⟨j, mem_parts.mpr ⟨r, ej2, by rw [t3.2]; rfl⟩, ej2, ?_⟩⟩
  unfold lotOf
  rw [if_pos t3.1]
  exact of_decide_eq_true t4
theorem init2 (rs : List Row) (k : Option Int) : (getO (initZ rs).2 k).isSome = true ↔ (isTold rs none = true ∧ k = none) := by
  unfold initZ
  by_cases h : isTold rs none = true
  · rw [if_pos h]
    cases k with
    | none => exact ⟨fun _ => ⟨h, rfl⟩, fun _ => rfl⟩
    | some x => exact ⟨fun z => (nomatch z), fun z => (nomatch z.2)⟩
  · rw [if_neg h]
    exact ⟨fun z => (nomatch z), fun z => absurd z.1 h⟩
theorem has_mine (rs : List Row) (k : Option Int) : (getO (foldZ rs (partsOf rs)).2 k).isSome = true ↔ ∃ r, r ∈ mineR rs k (partsOf rs) := by
  unfold foldZ
  rw [foldZ_begins, init2]
  constructor
  · rintro (⟨h, rfl⟩ | ⟨i, m, r, e, lk⟩)
    · exact mine_none h
    · exact ⟨r, mem_mine.mpr ⟨i, m, e, lk⟩⟩
  · rintro ⟨r, m⟩
    obtain ⟨i, mi, e, lk⟩ := mem_mine.mp m
    exact .inr ⟨i, mi, r, e, lk⟩
/-! keys -/
def keysO (b : KI) : List (Option Int) := b.map (·.1)
theorem keys_set (b : KI) (k : Option Int) (v : Int) : keysO (setO b k v) = if k ∈ keysO b then keysO b else keysO b ++ [k] := by
  unfold setO keysO
  have an : ((b.any fun p => decide (p.1 = k)) = true) ↔ k ∈ b.map (·.1) := by
    rw [List.any_eq_true, List.mem_map]
    exact ⟨fun ⟨p, m, e⟩ => ⟨p, m, of_decide_eq_true e⟩, fun ⟨p, m, e⟩ => ⟨p, m, decide_eq_true e⟩⟩
  by_cases h : k ∈ b.map (·.1)
  · rw [if_pos h, if_pos (an.mpr h), List.map_map]
    refine List.map_congr_left fun p _ => ?_
    show (if p.1 = k then (p.1, v) else p).1 = p.1
    split <;> rfl
  · rw [if_neg h, if_neg fun z => h (an.mp z), List.map_append]
    rfl
theorem nodup_set {b : KI} {k : Option Int} {v : Int} (h : (keysO b).Nodup) : (keysO (setO b k v)).Nodup := by
  rw [keys_set]
  split
  · exact h
  · rename_i n
    rw [List.nodup_append]
    exact ⟨h, by simp, fun a ha c hc => by
      rw [List.mem_singleton] at hc
      subst hc
      exact fun z => n (z ▸ ha)⟩
theorem nodup_fold (rs : List Row) : ∀ (l : List Nat) (st : KI × KI), (keysO st.2).Nodup → (keysO (l.foldl (stepZ rs) st).2).Nodup
  | [], st, h => h
  | i :: l, st, h => by
    rw [List.foldl_cons]
    refine nodup_fold rs l _ ?_
    cases hr : rs[i]? with
    | none => rw [stepZ_none hr]; exact h
    | some r => rw [stepZ_some hr]; exact nodup_set h
theorem nodup_begins (rs : List Row) : (keysO (foldZ rs (partsOf rs)).2).Nodup := by
  refine nodup_fold rs _ _ ?_
  unfold initZ
  split <;> decide
theorem mem_keys {b : KI} {k : Option Int} : k ∈ keysO b ↔ (getO b k).isSome = true := by
  refine ⟨getO_mem, fun h => ?_⟩
  unfold getO at h
  rw [Option.isSome_map, List.find?_isSome] at h
  obtain ⟨p, m, e⟩ := h
  exact List.mem_map.mpr ⟨p, m, of_decide_eq_true e⟩
theorem soms_keys (b : KI) : soms b = (keysO b).filterMap id := rfl
theorem mem_soms {b : KI} {x : Int} : x ∈ soms b ↔ (getO b (some x)).isSome = true := by
  rw [soms_keys, List.mem_filterMap, ← mem_keys]
  exact ⟨fun ⟨o, m, e⟩ => (show o = some x from e) ▸ m, fun m => ⟨some x, m, rfl⟩⟩
theorem nodup_somes : ∀ l : List (Option Int), l.Nodup → (l.filterMap id).Nodup
  | [], _ => List.nodup_nil
  | none :: l, h => nodup_somes l (List.nodup_cons.mp h).2
  | some x :: l, h => by
    rw [List.filterMap_cons]
    refine List.nodup_cons.mpr ⟨fun m => ?_, nodup_somes l (List.nodup_cons.mp h).2⟩
    obtain ⟨o, mo, e⟩ := List.mem_filterMap.mp m
    exact (List.nodup_cons.mp h).1 ((show o = some x from e) ▸ mo)
/-- a lot of a part is an index -/
theorem lot_index {rs : List Row} (ok : ∀ r ∈ rs, r.Ok) (nb : firstBad rs = none) {i : Nat} {r : Row} {x : Int} (h : rs[i]? = some r) (hx : lotOf r i = some x) : ∃ n : Nat, x = n ∧ n < rs.length := by
  have hi := (List.getElem?_eq_some_iff.mp h).1
  unfold lotOf at hx
  by_cases g : r.g = true
  · rw [if_pos g] at hx
    obtain ⟨_, _, x0⟩ := (ok r (List.mem_of_getElem? h)).tg x hx
    unfold firstBad at nb
    rw [List.find?_range_eq_none] at nb
    have := nb i hi
    unfold badAt at this
    rw [h] at this
    have this : (!(match r.t with
      | none => false
      | some j => decide ((rs.length : Int) ≤ j) || (match rs[j.toNat]? with
        | some r => r.g
        | none => true))) = true := this
    rw [hx] at this
    have this : (!(decide ((rs.length : Int) ≤ x) || (match rs[x.toNat]? with
      | some r => r.g
      | none => true))) = true := this
    have lt : ¬ (rs.length : Int) ≤ x := fun z => by
      rw [decide_eq_true z] at this
      cases this
    exact ⟨x.toNat, (Int.toNat_of_nonneg x0).symm, by omega⟩
  · rw [if_neg g] at hx
    exact ⟨i, (Option.some.inj hx).symm, hi⟩
def hasM (rs : List Row) (k : Option Int) : Bool := !(mineR rs k (partsOf rs)).isEmpty
theorem hasM_iff {rs : List Row} {k : Option Int} : hasM rs k = true ↔ ∃ r, r ∈ mineR rs k (partsOf rs) := by
  unfold hasM
  cases mineR rs k (partsOf rs) with
  | nil => exact ⟨fun z => (nomatch z), fun ⟨r, m⟩ => (nomatch m)⟩
  | cons r l => exact ⟨fun _ => ⟨r, List.mem_cons_self⟩, fun _ => rfl⟩
theorem puts_sorted {rs : List Row} (ok : ∀ r ∈ rs, r.Ok) (nb : firstBad rs = none) : putsZ (foldZ rs (partsOf rs)).2 = ((List.range rs.length).filter fun (i : Nat) => hasM rs (some (i : Int))).map fun (i : Nat) => (i : Int) := by
  refine (PySem.W.eq_sortI ?_ ?_).symm
  · refine (List.perm_ext_iff_of_nodup ?_ (nodup_somes _ (nodup_begins rs))).mpr fun x => ?_
    · refine List.Pairwise.map _ ?_ (List.nodup_range.filter _)
      intro a b h z
      exact h (Int.ofNat.inj z)
    · show _ ↔ x ∈ soms (foldZ rs (partsOf rs)).2
      rw [mem_soms, has_mine, ← hasM_iff]
      constructor
      · intro m
        obtain ⟨n, mn, rfl⟩ := List.mem_map.mp m
        exact (List.mem_filter.mp mn).2
      · intro h
        obtain ⟨r, m⟩ := hasM_iff.mp h
        obtain ⟨i, _, e, lk⟩ := mem_mine.mp m
        obtain ⟨n, rfl, hn⟩ := lot_index ok nb e lk
        exact List.mem_map.mpr ⟨n, List.mem_filter.mpr ⟨List.mem_range.mpr hn, h⟩, rfl⟩
  · refine List.Pairwise.map _ ?_ ((List.pairwise_lt_range).filter _)
    intro a b h
    omega
theorem lots_eq {rs : List Row} (ok : ∀ r ∈ rs, r.Ok) (nb : firstBad rs = none) : lotsZ (foldZ rs (partsOf rs)).2 = (none :: (List.range rs.length).map fun (i : Nat) => some (i : Int)).filter (hasM rs) := by
  have tail : ((List.range rs.length).map fun (i : Nat) => some (i : Int)).filter (hasM rs) = (putsZ (foldZ rs (partsOf rs)).2).map some := by
    rw [puts_sorted ok nb, List.filter_map, List.map_map]
    rfl
  unfold lotsZ
  rw [List.filter_cons, tail]
  have : (getO (foldZ rs (partsOf rs)).2 none).isSome = hasM rs none := by
    rw [Bool.eq_iff_iff, has_mine, hasM_iff]
  rw [this]
theorem acc_low : ∀ (bs : List Int) (b : Int), accB (some (-1)) (b :: bs) = if 0 ≤ b then accB none (b :: bs) else accB (some (-1)) (b :: bs) := fun bs b => by
  by_cases h : 0 ≤ b
  · rw [if_pos h]
    unfold accB
    rw [List.foldl_cons, List.foldl_cons]
    have e : max2 ((some (-1 : Int)).getD b) b = max2 ((none : Option Int).getD b) b := by
      show (if b > -1 then b else -1) = (if b > b then b else b)
      rw [if_pos (by omega), if_neg (by omega)]
    rw [e]
  · rw [if_neg h]
theorem accE_low : ∀ es : List Int, (∀ e ∈ es, 0 ≤ e) → accE (some (-1)) es = some (-1)
  | [], _ => rfl
  | e :: es, h => by
    unfold accE
    rw [List.foldl_cons]
    have h0 : 0 ≤ e := h e List.mem_cons_self
    have e1 : min2 ((some (-1 : Int)).getD e) e = -1 := by
      show (if e < -1 then e else -1) = -1
      rw [if_neg (by omega)]
    rw [e1]
    exact accE_low es fun x m => h x (List.mem_cons_of_mem _ m)
theorem told_of_mine {rs : List Row} (h : hasM rs none = true) : isTold rs none = true := by
  obtain ⟨r, m⟩ := hasM_iff.mp h
  obtain ⟨i, mi, e, lk⟩ := mem_mine.mp m
  obtain ⟨r', e', p⟩ := mem_parts.mp mi
  rw [e] at e'
  cases e'
  unfold lotOf at lk
  by_cases g : r.g = true
  · rw [if_pos g] at lk
    rw [g] at p
    have p : (r.e.isSome || (false && isTold rs (some (i : Int)))) = true := p
    rw [Bool.false_and, Bool.or_false] at p
    unfold isTold
    refine List.any_eq_true.mpr ⟨r, List.mem_of_getElem? e, ?_⟩
    unfold tells
    rw [g, p, decide_eq_true lk]
    rfl
  · rw [if_neg g] at lk
    cases lk
def zoneM (rs : List Row) (k : Option Int) : Option Int × Int × Int :=
  (k, if k = none then -1 else (accE none ((mineR rs k (partsOf rs)).filterMap (·.e))).getD 0, (accB none ((mineR rs k (partsOf rs)).map (·.b))).getD 0)
theorem zone_eq {rs : List Row} (ok : ∀ r ∈ rs, r.Ok) {k : Option Int} (h : hasM rs k = true) : zoneZ (foldZ rs (partsOf rs)) k = zoneM rs k := by
  unfold zoneZ zoneM foldZ
  rw [fold_begins, fold_ends]
  cases k with
  | some x =>
    have i1 : getO (initZ rs).1 (some x) = none := by unfold initZ; split <;> rfl
    have i2 : getO (initZ rs).2 (some x) = none := by unfold initZ; split <;> rfl
    rw [i1, i2, if_neg (by exact fun z => nomatch z)]
  | none =>
    have tl := told_of_mine h
    have i0 : initZ rs = ([(none, -1)], [(none, -1)]) := by unfold initZ; rw [if_pos tl]
    rw [i0, if_pos rfl]
    have mem : ∀ r ∈ mineR rs none (partsOf rs), r.Ok := fun r m => by
      obtain ⟨i, _, e, _⟩ := mem_mine.mp m
      exact ok r (List.mem_of_getElem? e)
    have b1 : getO [((none : Option Int), (-1 : Int))] none = some (-1) := rfl
    rw [b1]
    have ends : accE (some (-1)) ((mineR rs none (partsOf rs)).filterMap (·.e)) = some (-1) := accE_low _ fun e m => by
      obtain ⟨r, mr, er⟩ := List.mem_filterMap.mp m
      have := (mem r mr).eb e er
      have := (mem r mr).b0
      omega
    rw [ends]
    have : accB (some (-1)) ((mineR rs none (partsOf rs)).map (·.b)) = accB none ((mineR rs none (partsOf rs)).map (·.b)) := by
      unfold hasM at h
      cases hm : mineR rs none (partsOf rs) with
      | nil => rw [hm] at h; cases h
      | cons r l =>
        rw [List.map_cons, acc_low, if_pos (mem r (by rw [hm]; exact List.mem_cons_self)).b0]
    rw [this]
    rfl
/-- the zones are those of the lots that have an ask, in order -/
theorem zones_eq {rs : List Row} (ok : ∀ r ∈ rs, r.Ok) (nb : firstBad rs = none) : zonesOf rs = ((none :: (List.range rs.length).map fun (i : Nat) => some (i : Int)).filter (hasM rs)).map (zoneM rs) := by
  unfold zonesOf
  rw [lots_eq ok nb]
  exact List.map_congr_left fun k m => zone_eq ok (List.mem_filter.mp m).2
theorem accB_spec : ∀ (bs : List Int) (a : Int), ∃ m, accB (some a) bs = some m ∧ (m = a ∨ m ∈ bs) ∧ a ≤ m ∧ ∀ y ∈ bs, y ≤ m
  | [], a => ⟨a, rfl, .inl rfl, Int.le_refl _, fun _ z => nomatch z⟩
  | b :: bs, a => by
    obtain ⟨m, e, i, l, u⟩ := accB_spec bs (max2 a b)
    have h : max2 a b = a ∧ b ≤ a ∨ max2 a b = b ∧ a ≤ b := by
      unfold max2
      by_cases z : b > a
      · rw [if_pos z]; exact .inr ⟨rfl, by omega⟩
      · rw [if_neg z]; exact .inl ⟨rfl, by omega⟩
    refine ⟨m, e, ?_, by omega, fun y my => ?_⟩
    · rcases i with i | i
      · rcases h with h | h
        · exact .inl (i.trans h.1)
        · exact .inr (by rw [i, h.1]; exact List.mem_cons_self)
      · exact .inr (List.mem_cons_of_mem _ i)
    · rcases List.mem_cons.mp my with rfl | my
      · omega
      · exact u y my
theorem accE_spec : ∀ (es : List Int) (a : Int), ∃ m, accE (some a) es = some m ∧ (m = a ∨ m ∈ es) ∧ m ≤ a ∧ ∀ y ∈ es, m ≤ y
  | [], a => ⟨a, rfl, .inl rfl, Int.le_refl _, fun _ z => nomatch z⟩
  | b :: es, a => by
    obtain ⟨m, e, i, l, u⟩ := accE_spec es (min2 a b)
    have h : min2 a b = a ∧ a ≤ b ∨ min2 a b = b ∧ b ≤ a := by
      unfold min2
      by_cases z : b < a
      · rw [if_pos z]; exact .inr ⟨rfl, by omega⟩
      · rw [if_neg z]; exact .inl ⟨rfl, by omega⟩
    refine ⟨m, e, ?_, by omega, fun y my => ?_⟩
    · rcases i with i | i
      · rcases h with h | h
        · exact .inl (i.trans h.1)
        · exact .inr (by rw [i, h.1]; exact List.mem_cons_self)
      · exact .inr (List.mem_cons_of_mem _ i)
    · rcases List.mem_cons.mp my with rfl | my
      · omega
      · exact u y my
theorem accB_max {bs : List Int} {m : Int} (h : m ∈ bs) (u : ∀ y ∈ bs, y ≤ m) : accB none bs = some m := by
  cases bs with
  | nil => cases h
  | cons b bs =>
    obtain ⟨M, e, i, l, v⟩ := accB_spec bs b
    have e0 : accB none (b :: bs) = accB (some b) bs := by
      unfold accB
      rw [List.foldl_cons]
      have : max2 ((none : Option Int).getD b) b = b := by
        show (if b > b then b else b) = b
        split <;> rfl
      rw [this]
    rw [e0, e]
    have h1 : M ≤ m := by
      rcases i with rfl | i
      · exact u _ List.mem_cons_self
      · exact u _ (List.mem_cons_of_mem _ i)
    have h2 : m ≤ M := by
      rcases List.mem_cons.mp h with rfl | h
      · exact l
      · exact v m h
    rw [Int.le_antisymm h1 h2]
theorem accE_min {es : List Int} {m : Int} (h : m ∈ es) (u : ∀ y ∈ es, m ≤ y) : accE none es = some m := by
  cases es with
  | nil => cases h
  | cons b es =>
    obtain ⟨M, e, i, l, v⟩ := accE_spec es b
    have e0 : accE none (b :: es) = accE (some b) es := by
      unfold accE
      rw [List.foldl_cons]
      have : min2 ((none : Option Int).getD b) b = b := by
        show (if b < b then b else b) = b
        split <;> rfl
      rw [this]
    rw [e0, e]
    have h1 : m ≤ M := by
      rcases i with rfl | i
      · exact u _ List.mem_cons_self
      · exact u _ (List.mem_cons_of_mem _ i)
    have h2 : M ≤ m := by
      rcases List.mem_cons.mp h with rfl | h
      · exact l
      · exact v m h
    rw [Int.le_antisymm h1 h2]
/-- of a lot that has an ask, an end is there -/
theorem ends_some {rs : List Row} {k : Option Int} (h : hasM rs k = true) : (mineR rs k (partsOf rs)).filterMap (·.e) ≠ [] := by
  have h1 := (has_mine rs k).mpr (hasM_iff.mp h)
  have h2 := ends_there h1
  cases k with
  | none =>
    obtain ⟨r, m⟩ := mine_none (told_of_mine h)
    obtain ⟨i, mi, e, lk⟩ := mem_mine.mp m
    obtain ⟨r', e', p⟩ := mem_parts.mp mi
    rw [e] at e'
    cases e'
    cases he : r.e with
    | some x =>
      intro z
      have : x ∈ (mineR rs none (partsOf rs)).filterMap (·.e) := List.mem_filterMap.mpr ⟨r, m, he⟩
      rw [z] at this
      cases this
    | none =>
      rw [he] at p
      unfold lotOf at lk
      cases g : r.g with
      | true => rw [g] at p; cases p
      | false => rw [g, if_neg (by decide)] at lk; cases lk
  | some x =>
    unfold foldZ at h2
    rw [fold_ends] at h2
    have i1 : getO (initZ rs).1 (some x) = none := by unfold initZ; split <;> rfl
    rw [i1] at h2
    intro z
    rw [z] at h2
    cases h2
end K37
end

section
set_option Elab.async false
set_option linter.all false
set_option maxRecDepth 100000
set_option maxHeartbeats 4000000
/-! what the base needs -/
namespace K37
open PySem L2 KZ
section
variable {P : Program} {w : World} {K : PySem.W.Frag} {mg : Str → Option Value} {base : Heap} {C cB cT : Addr}
theorem Hist.at {H : Hp} {a : Addr} {rs : List Row} {i : Nat} {r : Row} (h : Hist K C H a rs) (e : rs[i]? = some r) : ∃ p dx xs, Sq K H a xs ∧ atI xs (i : Int) = some (.ref p) ∧ H p = some (.ins C dx (flds r)) := by
  obtain ⟨ps, sq, lp, hp⟩ := h.sq
  have hi : i < ps.length := by rw [lp]; exact (List.getElem?_eq_some_iff.mp e).1
  have ep : ps[i]? = some ps[i] := List.getElem?_eq_getElem hi
  obtain ⟨dx, ha⟩ := hp i ps[i] r ep e
  exact ⟨ps[i], dx, _, sq, at_nat (by rw [List.getElem?_map, ep]; rfl), ha⟩
end
theorem bad_all {rs : List Row} (nb : firstBad rs = none) {i : Nat} (hi : i < rs.length) : badAt rs i = false := by
  unfold firstBad at nb
  have := List.find?_eq_none.mp nb i (List.mem_range.mpr hi)
  cases h : badAt rs i with
  | false => rfl
  | true => exact absurd h this
theorem told_at {rs : List Row} (ok : ∀ r ∈ rs, r.Ok) (nb : firstBad rs = none) {i : Nat} {r : Row} (er : rs[i]? = some r) {t : Int} (et : r.t = some t) : ∃ k s, t = ((k : Nat) : Int) ∧ rs[k]? = some s ∧ s.g = false := by
  have hi := (List.getElem?_eq_some_iff.mp er).1
  have b := bad_all nb hi
  obtain ⟨_, _, h0⟩ := (ok r (List.mem_of_getElem? er)).tg t et
  unfold badAt at b
  rw [er] at b
  rw [show (some r).bind (·.t) = some t from et] at b
  simp only [Bool.or_eq_false_iff] at b
  cases hs : rs[t.toNat]? with
  | none => rw [hs] at b; exact absurd b.2 (by decide)
  | some s =>
    rw [hs] at b
    exact ⟨t.toNat, s, by omega, hs, b.2⟩
def spAheadX (C : Addr) : Sp := fun vs H Q _ => ∃ a r b s, vs = [.ref a, .ref b] ∧ AskAt C H a r ∧ AskAt C H b s ∧ Q (.bl (ahead r s)) H
abbrev Zn : Type := Option Int × Int × Int
theorem cut_to {xs : List V} {i : Nat} (h : i < xs.length) : cutV xs none (some (i : Int)) = xs.take i ∧ ¬ (HT.sIx xs.length 0 none = 0 ∧ HT.sIx xs.length xs.length (some (i : Int)) = xs.length) := by
  have e : HT.sIx xs.length xs.length (some (i : Int)) = i := by
    rw [HT.sIx_nat, Nat.min_eq_left (Nat.le_of_lt h)]
  have e0 : HT.sIx xs.length 0 none = 0 := rfl
  refine ⟨?_, fun z => ?_⟩
  · unfold cutV
    rw [e, e0]
    rfl
  · rw [e] at z
    omega
def ZoneAt (H : Hp) (q : Addr) (z : Zn) : Prop := H q = some (.tup [oV z.1, .int z.2.1, .int z.2.2])
theorem eq_oV (o u : Option Int) : decide (oV o = oV u) = decide (o = u) := by
  by_cases h : o = u
  · rw [decide_eq_true h, decide_eq_true (by rw [h])]
  · rw [decide_eq_false h, decide_eq_false fun z => h ?_]
    cases o <;> cases u <;> first | rfl | (cases z; done) | (cases z; rfl)
structure Cal (P : Program) (w : World) (K : PySem.W.Frag) (mg : Str → Option Value) (base : Heap) (x : Str) (n : Nat) (ps : List Str) (sp : Sp) : Prop where
  ex : ∃ f fd, mg x = some (.ref f) ∧ FnOk P w K mg base CX0 n f fd ps sp ∧ PySem.W.keepIn K (.ref f) = true ∧ Binds K fd ps []
def spZonesX (K : PySem.W.Frag) (C : Addr) : Sp := fun vs H Q _ => ∃ a rs, vs = [.ref a] ∧ Hist K C H a rs ∧ rs.length ≤ 1000 ∧ (∀ r ∈ rs, r.Ok) ∧ firstBad rs = none ∧ ∀ p H', Same H H' → ZonesAt H' p (zonesOf rs) → Q (.ref p) H'
theorem zones_le (rs : List Row) : (zonesOf rs).length ≤ rs.length + 2 := by
  unfold zonesOf
  rw [List.length_map]
  have h1 := lotsZ_len (foldZ rs (partsOf rs)).2
  have h2 := (foldZ_len1 rs (partsOf rs)).2
  have h3 : (partsOf rs).length ≤ rs.length := by
    unfold partsOf
    exact Nat.le_trans (List.length_filter_le _ _) (by simp)
  omega
/-- the zone of a lot -/
def zoneOf (rs : List Row) (k : Option Int) : Zn := zoneZ (foldZ rs (partsOf rs)) k
theorem zones_mem {rs : List Row} {i : Nat} {r : Row} (h : i ∈ partsOf rs) (er : rs[i]? = some r) : zoneOf rs (lotOf r i) ∈ zonesOf rs := by
  have hm : (getO (foldZ rs (partsOf rs)).2 (lotOf r i)).isSome = true := (has_mine rs _).mpr ⟨r, mem_mine.mpr ⟨i, h, er, rfl⟩⟩
  unfold zonesOf
  refine List.mem_map.mpr ⟨lotOf r i, ?_, rfl⟩
  unfold lotsZ
  cases e : lotOf r i with
  | none =>
    rw [e] at hm
    rw [if_pos hm]
    exact List.mem_cons_self
  | some x =>
    rw [e] at hm
    have : some x ∈ (putsZ (foldZ rs (partsOf rs)).2).map some := List.mem_map.mpr ⟨x, by
      unfold putsZ
      exact (PySem.W.sortI_perm _).mem_iff.mpr (mem_soms.mpr hm), rfl⟩
    split
    · exact List.mem_cons_of_mem _ this
    · exact this
theorem zones_inj {rs : List Row} : ∀ u v, u ∈ zonesOf rs → v ∈ zonesOf rs → u.1 = v.1 → u = v := fun u v mu mv e => by
  unfold zonesOf at mu mv
  obtain ⟨k, _, rfl⟩ := List.mem_map.mp mu
  obtain ⟨l, _, rfl⟩ := List.mem_map.mp mv
  have : k = l := e
  rw [this]
theorem in_parts {ps : List Nat} {i : Int} : inV (V.int i) (nats ps) = ps.any fun (n : Nat) => decide ((n : Int) = i) := by
  unfold inV nats
  rw [List.any_map]
  rfl
theorem nats_flat (ps : List Nat) : (nats ps).all flatV = true := by
  unfold nats
  rw [List.all_map]
  exact List.all_eq_true.mpr fun _ _ => rfl
def isPutAt (rs : List Row) (i : Nat) : Bool := match rs[i]? with
  | some r => !r.g
  | none => false
end K37
end

section
set_option Elab.async false
set_option linter.all false
set_option maxRecDepth 100000
set_option maxHeartbeats 4000000
/-! the asks that play a part, by the law -/
namespace K37
open PySem L2 KZ
abbrev sLAhead : Stmt := top 42
def spLParts : Sp := fun vs H Q _ => ∃ a rs, vs = [.ref a] ∧ RowsAt H a rs ∧ rs.length ≤ 1000 ∧ (∀ r ∈ rs, r.Ok) ∧ firstBad rs = none ∧ ∀ p H', Same H H' → H' p = some (.lst (nats (partsOf rs))) → Q (.ref p) H'
def tkv (l : List Int) : List (Key × V) := l.map fun i => (.inl i, .bl true)
theorem tkv_in : ∀ (l : List Int) (acc : List (Key × V)) (i : Int), (valV (mergeK acc (tkv l)) (.inl i)).isSome = ((valV acc (.inl i)).isSome || l.any fun j => decide (j = i))
  | [], acc, i => by
    show (valV acc (.inl i)).isSome = _
    rw [List.any_nil, Bool.or_false]
  | j :: l, acc, i => by
    show (valV (mergeK (putK acc (.inl j) (.bl true)) (tkv l)) (.inl i)).isSome = _
    rw [tkv_in l, valV_put, List.any_cons]
    by_cases e : i = j
    · subst e
      rw [if_pos rfl, decide_eq_true rfl]
      cases (valV acc (.inl i)).isSome <;> rfl
    · rw [if_neg (fun z => e (Sum.inl.inj z)), decide_eq_false (fun z => e z.symm), Bool.false_or]
def TPs (H : Hp) (ts : List Addr) (l : List Int) : Prop := Paired (fun p (kv : Key × V) => H p = some (.tup [kV kv.1, kv.2])) ts (tkv l)
theorem TPs.mono {H H' : Hp} {ts : List Addr} {l : List Int} (h : TPs H ts l) (k : ∀ p x, H p = some (.tup x) → H' p = some (.tup x)) : TPs H' ts l := Paired.mapP h fun _ _ z => k _ _ z
theorem TPs.snoc {H : Hp} {ts : List Addr} {l : List Int} {t : Addr} {i : Int} (h : TPs H ts l) (e : H t = some (.tup [.int i, .bl true])) : TPs H (ts ++ [t]) (l ++ [i]) := by
  unfold TPs tkv
  rw [List.map_append]
  exact Paired.snoc h e
section
variable {P : Program} {w : World} {K : PySem.W.Frag} {mg : Str → Option Value} {base : Heap} {fL : Addr} {dL : FuncData}
theorem scLParts : FnScope ["rows", "told", "row", "at"] ["rows"] (defScope sLParts) := ⟨rfl, rfl, rfl, by decide +kernel, rfl, by decide +kernel, by decide +kernel⟩
theorem ok_lparts {f : Addr} {fd : FuncData} (F : Fun K "_law_parts" "_law_parts" sLParts f fd) (T : B1 mg) : FnOk P w K mg base CX0 1 f fd ["rows"] spLParts := by
  refine F.ok scLParts (fun vs H Q E h => ?_) (fun cdv A' outer s H vs Q E hr h => ?_)
  · obtain ⟨a, rs, rfl, _⟩ := h
    rfl
  · obtain ⟨a, rs, rfl, hh, hl, ok, nb, q⟩ := h
    have huB := Nat.lt_of_le_of_lt (Nat.add_le_add_left (show 1 ≤ 64 by decide) _) hr.units
    refine ⟨_, (pss_cons (ps_set (i := 1) scLParts.nd rfl (Or.inr rfl) (pe_callTy (call_dictP rfl) (by rfl) T.dict (by decide +kernel) (pa_cons (pe_lc (own := [("row", 2)]) (g := gName 2) (by rfl) scLParts.nd (pi_list (pv 0)) (blkOk_by (own := [("row", 2)]) (N := ["rows", "told", "row", "at"]) (sc := defScope sLParts) (by decide +kernel)) (fun _ _ _ _ _ => pg_name (i := 2) scLParts.nd rfl (Or.inl rfl)) (fun _ _ _ _ _ => pts_one (pt_cmpR op_notN (pe_ix (ix_seqK K) (pv 2) pe_int (fun _ _ => rfl)) pe_non (nomark _))) (fun _ _ _ _ _ => pe_tup (pa_cons (pe_ix (ix_seqK K) (pv 2) pe_int (fun _ _ => rfl)) (pa_cons pe_bl pa_nil)))) pa_nil)))
(pss_one (ps_ret (pe_lc (own := [("at", 3), ("row", 2)]) (by rfl) scLParts.nd (pi_enum (by rfl) T.enum (pa_cons (pv 0) pa_nil)) (blkOk_by (own := [("at", 3), ("row", 2)]) (N := ["rows", "told", "row", "at"]) (sc := defScope sLParts) (by decide +kernel)) (fun _ _ _ _ _ => pg_tupK (n := 2) K rfl ((pgs_cons (pg_name (i := 3) scLParts.nd rfl (Or.inl rfl)) (pgs_cons (pg_name (i := 2) scLParts.nd rfl (Or.inl rfl)) pgs_nil)))) (fun _ _ _ _ _ => pts_one (PW.pt (pw_or (pt_cmpR op_notN (pe_ix (ix_seqK K) (pv 2) pe_int (fun _ _ => rfl)) pe_non (nomark _)) (pw_or1 (pt_cmp (pc_din huB (pv 3) (pv 1))))))) (fun _ _ _ _ _ => pv 3))))), ?_⟩
    obtain ⟨ps, ha, lp, hp⟩ := hh
    refine ⟨.ref a, rfl, a, rfl, ⟨_, SqL.of ha⟩, fun D hD => ?_⟩
    refine lc_it (walk_list (K := K) (a := a) (xs := ps.map V.ref)) (fun i H' => ∃ ts : List Addr, H' D = some (.lst (ts.map V.ref)) ∧ TPs H' ts (toldI (rs.take i)) ∧ Same H H') ⟨[], upd_same, .nil, same_new hD⟩ (fun i H' _ ⟨_, _, _, s⟩ => SqL.of (s _ _ ha)) ?_ ?_
    · rintro i x H2 H3 hi ⟨ts, hD2, tp, s2⟩ ⟨rfl, hx⟩
      have hi2 : i < ps.length := by rw [List.length_map] at hi; exact hi
      have hi3 : i < rs.length := by rw [← lp]; exact hi2
      have ex : x = .ref ps[i] := by
        rw [List.getElem?_map, List.getElem?_eq_getElem hi2] at hx
        exact (Option.some.inj hx).symm
      subst ex
      have row := s2 _ _ (hp i ps[i] rs[i] (List.getElem?_eq_getElem hi2) (List.getElem?_eq_getElem hi3))
      have tk : toldI (rs.take (i + 1)) = toldI (rs.take i) ++ rs[i].t.toList := by
        have one : ∀ r : Row, [r].filterMap (·.t) = r.t.toList := fun r => by cases h : r.t <;> simp [List.filterMap, h]
        unfold toldI
        rw [List.take_add_one, List.getElem?_eq_getElem hi3, List.filterMap_append]
        exact congrArg (List.filterMap (·.t) (rs.take i) ++ ·) (one rs[i])
      have l1 : (toldI (rs.take i)).length ≤ i := by
        unfold toldI
        refine Nat.le_trans (List.length_filterMap_le _ _) ?_
        rw [List.length_take]
        omega
      have l2 : ts.length = (toldI (rs.take i)).length := by
        have := Paired.length tp
        unfold tkv at this
        rw [List.length_map] at this
        exact this
      rw [tk]
      generalize rs[i] = r at row ⊢
      generalize toldI (rs.take i) = ls at tp l1 l2 ⊢
      have sq : Sq K _ ps[i] (rowV r) := .inr (SqT.of row)
      refine ⟨rfl, .ref ps[i], rfl, Sq.ix sq rfl ⟨rfl, r.t.isSome, (by cases r.t <;> rfl), ?_⟩⟩
      cases ht : r.t with
      | none =>
        refine iteF' ⟨ts, hD2, ?_, s2⟩
        rw [show (none : Option Int).toList = [] from rfl, List.append_nil]
        exact tp
      | some m =>
        refine iteT' ⟨.ref ps[i], rfl, Sq.ix sq (show atI (rowV r) 4 = some (.int m) from by unfold rowV; rw [ht]; rfl) ⟨(by show 2 ≤ sizeLine; decide), fun t ht2 => ?_⟩⟩
        have nT : t ≠ D := fun z => by rw [z, hD2] at ht2; cases ht2
        have s3 := s2.trans (same_new (o := .tup [.int m, .bl true]) ht2)
        refine ⟨_, by rw [upd_ne nT.symm]; exact hD2, ?_, ts ++ [t], ?_, ?_, fun b o e => ?_⟩
        · rw [List.length_map, l2]
          exact Nat.lt_of_le_of_lt (Nat.le_trans l1 (show i ≤ 1000 by omega)) (by decide)
        · rw [upd_same, List.map_append]
          rfl
        · refine TPs.snoc (tp.mono fun p x e => ?_) ?_
          · rw [upd_ne (fun z => by rw [z, hD2] at e; cases e), upd_ne (ne_of_none e ht2)]
            exact e
          · rw [upd_ne nT]
            exact upd_same
        · rw [upd_ne (ne_of_none e hD)]
          exact s3 b o e
    rintro H2 ⟨ts, hD2, tp, s2⟩
    have e0 : toldI (rs.take (ps.map V.ref).length) = toldI rs := by rw [List.length_map, lp, List.take_of_length_le (Nat.le_refl _)]
    rw [e0] at tp
    refine ⟨D, ts, tkv (toldI rs), rfl, SqL.of hD2, Paired.mapP tp fun _ _ z => SqT.of z, fun T0' hT0' => ?_⟩
    have s1 : Same H (upd H2 T0' (.dK (mergeK [] (tkv (toldI rs))))) := s2.trans (same_new hT0')
    have hd1 : upd H2 T0' (.dK (mergeK [] (tkv (toldI rs)))) T0' = some (.dK (mergeK [] (tkv (toldI rs)))) := upd_same
    generalize upd H2 T0' (.dK (mergeK [] (tkv (toldI rs)))) = H1 at s1 hd1 ⊢
    have ha1 := s1 _ _ ha
    refine ⟨.ref a, rfl, a, _, rfl, SqL.of ha1, fun G hG => ?_⟩
    refine lc_it (walk_enum (K := K) (a := a) (xs := ps.map V.ref)) (fun i H' => H' G = some (.lst (nats ((List.range i).filter (isPart rs)))) ∧ Same H1 H') ⟨upd_same, same_new hG⟩ (fun i H' _ e => SqL.of (e.2 _ _ ha1)) ?_ ?_
    · rintro i x H2 H3 hi ⟨hg, s2⟩ ⟨T0, xa, xb, rfl, hT0, rfl, ea, eb⟩
      have hi2 : i < ps.length := by rw [List.length_map] at hi; exact hi
      have hi3 : i < rs.length := by rw [← lp]; exact hi2
      cases ea
      have eb' : xb = .ref ps[i] := by
        dsimp only at eb
        rw [List.getElem?_map, List.getElem?_eq_getElem hi2] at eb
        exact (Option.some.inj eb).symm
      subst eb'
      have s3 := s2.trans (same_new (o := .tup [.int (i : Nat), .ref ps[i]]) hT0)
      have row := (s1.trans s3) _ _ (hp i ps[i] rs[i] (List.getElem?_eq_getElem hi2) (List.getElem?_eq_getElem hi3))
      have nT : G ≠ T0 := ne_of_none hg hT0
      have hg3 : upd H2 T0 (.tup [.int (i : Nat), .ref ps[i]]) G = some (.lst (nats ((List.range i).filter (isPart rs)))) := by rw [upd_ne nT]; exact hg
      have ip := part_any ok nb (List.getElem?_eq_getElem hi3)
      have nx : nats ((List.range (i + 1)).filter (isPart rs)) = if isPart rs i = true then nats ((List.range i).filter (isPart rs)) ++ [V.int (i : Int)] else nats ((List.range i).filter (isPart rs)) := by
        rw [List.range_succ, List.filter_append]
        cases c : isPart rs i with
        | true => rw [if_pos rfl]; simp [nats, c]
        | false => rw [if_neg (by decide)]; simp [c]
      have al : (nats ((List.range i).filter (isPart rs))).length < sizeLine := by
        have : (nats ((List.range i).filter (isPart rs))).length ≤ i := by
          unfold nats
          rw [List.length_map]
          exact Nat.le_trans (List.length_filter_le _ _) (by simp)
        exact Nat.lt_of_le_of_lt (Nat.le_trans this (show i ≤ 1000 by omega)) (by decide)
      refine ⟨T0, [.int (i : Nat), .ref ps[i]], rfl, .inl (.inl upd_same), rfl, _, _, rfl, _, _, rfl, rfl, ?_⟩
      have hd3 := s3 _ _ hd1
      have inn : (valV (mergeK [] (tkv (toldI rs))) (.inl ((i : Nat) : Int))).isSome = (toldI rs).any fun j => decide (j = (i : Int)) := by
        rw [tkv_in]
        rfl
      generalize rs[i] = r at row ip
      have sq : Sq K _ ps[i] (rowV r) := .inr (SqT.of row)
      generalize upd H2 T0 (.tup [.int (i : Nat), .ref ps[i]]) = H3 at s3 hg3 hd3 row sq ⊢
      have isY : isPart rs i = true → (upd H3 G (.lst (nats ((List.range i).filter (isPart rs)) ++ [V.int (i : Int)]))) G = some (.lst (nats ((List.range (i + 1)).filter (isPart rs)))) ∧ Same H1 (upd H3 G (.lst (nats ((List.range i).filter (isPart rs)) ++ [V.int (i : Int)]))) := fun z =>
        ⟨by rw [upd_same, nx, if_pos z], fun b o e => by rw [upd_ne (ne_of_none e hG)]; exact s3 b o e⟩
      have isN : isPart rs i = false → H3 G = some (.lst (nats ((List.range (i + 1)).filter (isPart rs)))) ∧ Same H1 H3 := fun z => ⟨by rw [nx, if_neg (by rw [z]; decide)]; exact hg3, s3⟩
      refine ⟨rfl, ?_⟩
      refine ⟨.ref ps[i], rfl, Sq.ix sq rfl ⟨rfl, r.e.isSome, (by cases r.e <;> rfl), ?_⟩⟩
      cases he : r.e.isSome with
      | true => exact iteT' (iteT' ⟨_, rfl, _, hg3, al, isY (by rw [ip, he]; rfl)⟩)
      | false =>
        rw [he, Bool.false_or] at ip
        refine iteF' ⟨.int (i : Nat), rfl, .ref T0', rfl, T0', _, rfl, DGet.k (k := .inl ((i : Nat) : Int)) hd3, _, rfl, ?_⟩
        rw [inn, ← ip]
        cases hq : isPart rs i with
        | true => exact iteT' ⟨_, rfl, _, hg3, al, isY hq⟩
        | false => exact iteF' (isN hq)
    · rintro H2 ⟨hg, s2⟩
      rw [List.length_map, lp] at hg
      exact q G _ (s1.trans s2) hg
end
end K37
end

section
set_option Elab.async false
set_option linter.all false
set_option maxRecDepth 100000
set_option maxHeartbeats 4000000
/-! one row ahead of another; all orders, by the law -/
namespace K37
open PySem L2 KZ
def spLAhead : Sp := fun vs H Q _ => ∃ p q r s, vs = [.ref p, .ref q] ∧ RowAt H p r ∧ RowAt H q s ∧ Q (.bl (ahead r s)) H
section
variable {P : Program} {w : World} {K : PySem.W.Frag} {mg : Str → Option Value} {base : Heap} {fL : Addr} {dL : FuncData}
theorem scLAhead : FnScope ["one", "other"] ["one", "other"] (defScope sLAhead) := ⟨rfl, rfl, rfl, by decide +kernel, rfl, by decide +kernel, by decide +kernel⟩
theorem ok_lahead {f : Addr} {fd : FuncData} (F : Fun K "_law_ahead" "_law_ahead" sLAhead f fd) : FnOk P w K mg base CX0 1 f fd ["one", "other"] spLAhead := by
  refine F.ok scLAhead (fun vs H Q E h => ?_) (fun cdv A' outer s H vs Q E hr h => ?_)
  · obtain ⟨p, q, r, s, rfl, _⟩ := h
    rfl
  · obtain ⟨p, q, r, t, rfl, h1, h2, hQ⟩ := h
    refine ⟨_, (pss_one (ps_ret (pe_and (pe_cmpR op_notN (pe_ix (ix_seqK K) (pv 0) pe_int (fun _ _ => rfl)) pe_non (nomark _)) (pe_one (pe_cmpR op_lt (pe_ix (ix_seqK K) (pv 0) pe_int (fun _ _ => rfl)) (pe_ix (ix_seqK K) (pv 1) pe_int (fun _ _ => rfl)) (nomark _)))))), ?_⟩
    have s1 : Sq K H p (rowV r) := .inr (SqT.of h1)
    have s2 : Sq K H q (rowV t) := .inr (SqT.of h2)
    refine ⟨.ref p, rfl, Sq.ix s1 (show atI (rowV r) 3 = some (oV r.e) from at_nat (i := 3) rfl) ⟨rfl, ?_⟩⟩
    unfold ahead at hQ
    cases he : r.e with
    | none =>
      rw [he] at hQ
      exact ⟨false, rfl, iteF' hQ⟩
    | some e =>
      rw [he] at hQ
      exact ⟨true, rfl, iteT' ⟨.ref p, rfl, Sq.ix s1 (show atI (rowV r) 3 = some (.int e) from by unfold rowV; rw [he]; exact at_nat (i := 3) rfl) ⟨.ref q, rfl, Sq.ix s2 (show atI (rowV t) 2 = some (.int t.b) from at_nat (i := 2) rfl) ⟨_, _, rfl, rfl, hQ⟩⟩⟩⟩
end
end K37
end

section
set_option Elab.async false
set_option linter.all false
set_option maxRecDepth 100000
set_option maxHeartbeats 4000000
/-! all orders, by the law -/
namespace K37
open PySem L2 KZ
abbrev sLOrders : Stmt := top 43
theorem op_notIn_seqK {X : Cx} (K : PySem.W.Frag) (h : X.K = K := by rfl) : OpR X (compareOp .NotIn) (rIn K true) := by subst h; exact op_notIn_seq
def leftOf (mine o : List Nat) : List Nat := mine.filter fun i => !o.any fun j => decide (j = i)
def aheadI (rs : List Row) (i j : Nat) : Bool := match rs[i]?, rs[j]? with
  | some r, some s => ahead r s
  | _, _ => false
def earlyIn (rs : List Row) (left : List Nat) (k : Nat) : List Nat := left.filter fun i => !decide (i = k) && aheadI rs i k
def fitsB (rs : List Row) (k : Nat) (last : Option Int) : Bool := match rs[k]? with
  | some r => !r.g || decide (r.t = last)
  | none => false
def lastB' (rs : List Row) (k : Nat) (last : Option Int) : Option Int := match rs[k]? with
  | some r => if r.g = false then some (k : Int) else last
  | none => last
abbrev OL : Type := List Nat × Option Int
def okNext (rs : List Row) (left : List Nat) (last : Option Int) (k : Nat) : Bool := (earlyIn rs left k).isEmpty && fitsB rs k last
def nextIn (rs : List Row) (left : List Nat) (ol : OL) (l : List Nat) : List OL := (l.filter (okNext rs left ol.2)).map fun k => (ol.1 ++ [k], lastB' rs k ol.2)
def nextOf (rs : List Row) (mine : List Nat) (ol : OL) : List OL := nextIn rs (leftOf mine ol.1) ol (leftOf mine ol.1)
def lineOf (rs : List Row) (mine : List Nat) : Nat → List OL
  | 0 => [([], none)]
  | k + 1 => (lineOf rs mine k).flatMap (nextOf rs mine)
def ordersOf (rs : List Row) : List (List Nat) := (lineOf rs (partsOf rs) (partsOf rs).length).map (·.1)
theorem next_len (rs : List Row) (mine : List Nat) (ol : OL) : (nextOf rs mine ol).length ≤ mine.length := by
  unfold nextOf nextIn leftOf
  rw [List.length_map]
  exact Nat.le_trans (List.length_filter_le _ _) (List.length_filter_le _ _)
theorem line_len (rs : List Row) (mine : List Nat) : ∀ k, (lineOf rs mine k).length ≤ mine.length ^ k
  | 0 => Nat.le_refl _
  | k + 1 => by
    have ih := line_len rs mine k
    have le : ∀ l : List OL, (l.flatMap (nextOf rs mine)).length ≤ mine.length * l.length := fun l => by
      induction l with
      | nil => exact Nat.le_refl _
      | cons x l ih2 =>
        rw [List.flatMap_cons, List.length_append, List.length_cons, Nat.mul_succ]
        have := next_len rs mine x
        omega
    show ((lineOf rs mine k).flatMap (nextOf rs mine)).length ≤ _
    refine Nat.le_trans (le _) ?_
    rw [Nat.pow_succ, Nat.mul_comm]
    exact Nat.mul_le_mul_right _ ih
theorem line_ord (rs : List Row) (mine : List Nat) : ∀ k ol, ol ∈ lineOf rs mine k → ol.1.length = k
  | 0, ol, m => by
    have : ol = ([], none) := List.mem_singleton.mp m
    rw [this]
    rfl
  | k + 1, ol, m => by
    obtain ⟨x, mx, mo⟩ := List.mem_flatMap.mp (show ol ∈ (lineOf rs mine k).flatMap (nextOf rs mine) from m)
    unfold nextOf nextIn at mo
    obtain ⟨j, _, rfl⟩ := List.mem_map.mp mo
    have := line_ord rs mine k x mx
    show (x.1 ++ [j]).length = k + 1
    rw [List.length_append, this]
    rfl
def OLAt (H : Hp) (t : Addr) (ol : OL) : Prop := ∃ q, H t = some (.tup [.ref q, oV ol.2]) ∧ TupD H q (nats ol.1)
def LineAt (H : Hp) (ts : List Addr) (ls : List OL) : Prop := Paired (OLAt H) ts ls
theorem LineAt.mono {H H' : Hp} {ts : List Addr} {ls : List OL} (h : LineAt H ts ls) (k : ∀ p x, (∀ l, x ≠ HO.lst l) → H p = some x → H' p = some x) : LineAt H' ts ls := Paired.mapP h fun _ _ ⟨q, e1, e2⟩ => ⟨q, k _ _ (fun _ z => nomatch z) e1, e2.mono fun ob e => k _ _ (fun _ z => nomatch z) e⟩
section
variable {P : Program} {w : World} {K : PySem.W.Frag} {mg : Str → Option Value} {base : Heap} {fP fA : Addr} {dP dA : FuncData}
theorem left_lc {a M Lc D q : Addr} {x3 x7 x8 x9 x10 : Option V} {last : V} {mine o : List Nat} {H : Hp} {Q : VK} (hm : H M = some (.lst (nats mine))) (ho : TupD H q (nats o)) (lm : mine.length ≤ 1000)
    (go : ∀ L, H L = none → Q (.ref L) (upd H L (.lst (nats (leftOf mine o))))) :
    tLc (iList K (tVar 1)) (gName 8) (tTest (tOp (rIn K true) (tVar 8) (tVar 5))) (tVar 8) [8] [some (.ref a), some (.ref M), some (.ref Lc), x3, some (.ref D), some (.ref q), some last, x7, x8, x9, x10] H Q := by
  refine ⟨.ref M, rfl, M, rfl, ⟨_, SqL.of hm⟩, fun L hL => ?_⟩
  refine lc_it (walk_list (K := K) (a := M) (xs := nats mine)) (fun i H' => H' = upd H L (.lst (nats (leftOf (mine.take i) o)))) rfl (fun i H' _ e => by rw [e]; exact SqL.of (same_new hL _ _ hm)) ?_ ?_
  · rintro i x H2 H3 hi rfl ⟨rfl, hx⟩
    have hi2 : i < mine.length := by unfold nats at hi; rw [List.length_map] at hi; exact hi
    have ex : x = .int (mine[i] : Nat) := by
      unfold nats at hx
      rw [List.getElem?_map, List.getElem?_eq_getElem hi2] at hx
      exact (Option.some.inj hx).symm
    subst ex
    have tk : leftOf (mine.take (i + 1)) o = leftOf (mine.take i) o ++ (if (!o.any fun j => decide (j = mine[i])) = true then [mine[i]] else []) := by
      unfold leftOf
      rw [List.take_add_one, List.getElem?_eq_getElem hi2, List.filter_append]
      congr 1
      show List.filter _ [mine[i]] = _
      rw [List.filter_cons]
      rfl
    rw [tk]
    have ln : (nats (leftOf (mine.take i) o)).length < sizeLine := by
      unfold nats leftOf
      rw [List.length_map]
      refine Nat.lt_of_le_of_lt (Nat.le_trans (List.length_filter_le _ _) (show _ ≤ 1000 from ?_)) (by decide)
      rw [List.length_take]
      omega
    have ho2 := ho.mono fun ob e => same_new (o := .lst (nats (leftOf (mine.take i) o))) hL _ _ e
    generalize mine[i] = m
    generalize leftOf (mine.take i) o = us at ln ho2 ⊢
    have inn : inV (.int (m : Nat)) (nats o) = o.any fun j => decide (j = m) := by
      rw [in_parts]
      congr 1
      funext j
      by_cases e : j = m
      · rw [decide_eq_true e, decide_eq_true (by rw [e])]
      · rw [decide_eq_false e, decide_eq_false (show ¬ ((j : Nat) : Int) = ((m : Nat) : Int) from fun z => e (Int.ofNat.inj z))]
    refine ⟨rfl, .int m, rfl, .ref q, rfl, q, _, rfl, .inr ho2.sq, rfl, nats_flat _, _, rfl, ?_⟩
    rw [if_pos rfl, inn]
    cases c : (o.any fun j => decide (j = m)) with
    | true =>
      refine iteF' ?_
      show _ = _
      rw [if_neg (by decide), List.append_nil]
    | false =>
      refine iteT' ⟨_, rfl, _, upd_same, ln, ?_⟩
      rw [upd_upd, if_pos (show (!false) = true from rfl)]
      unfold nats
      rw [List.map_append]
      rfl
  · rintro H2 rfl
    have e0 : mine.take (nats mine).length = mine := by
      unfold nats
      rw [List.length_map, List.take_of_length_le (Nat.le_refl _)]
    rw [e0]
    exact go L hL
theorem RowsAt.at {H : Hp} {a : Addr} {rs : List Row} {i : Nat} {r : Row} (h : RowsAt H a rs) (e : rs[i]? = some r) : ∃ p xs, SqL K H a xs ∧ atI xs (i : Int) = some (.ref p) ∧ RowAt H p r := by
  obtain ⟨ps, ha, lp, hp⟩ := h
  have hi : i < ps.length := by rw [lp]; exact (List.getElem?_eq_some_iff.mp e).1
  have ep : ps[i]? = some ps[i] := List.getElem?_eq_getElem hi
  exact ⟨ps[i], _, SqL.of ha, at_nat (by rw [List.getElem?_map, ep]; rfl), hp i ps[i] r ep e⟩
theorem early_lc {a M Lc D q L : Addr} {x3 x9 x10 : Option V} {last : V} {rs : List Row} {left : List Nat} {k : Nat} {r : Row} {H : Hp} {Q : VK} (hr : RowsAt H a rs) (hl : H L = some (.lst (nats left))) (ll : left.length ≤ 1000) (in_ : ∀ i ∈ left, i < rs.length) (er : rs[k]? = some r)
    (go : ∀ G, H G = none → Q (.ref G) (upd H G (.lst (nats (earlyIn rs left k))))) :
    tLc (iList K (tVar 7)) (gName 10) (tAnd (tTest (tOp rNe (tVar 10) (tVar 8))) (tB (tCall spLAhead [] E0 (tCons (tOp (rIx K) (tVar 0) (tVar 10)) (tCons (tOp (rIx K) (tVar 0) (tVar 8)) tNil))))) (tVar 10) [10]
      [some (.ref a), some (.ref M), some (.ref Lc), x3, some (.ref D), some (.ref q), some last, some (.ref L), some (.int k), x9, x10] H Q := by
  refine ⟨.ref L, rfl, L, rfl, ⟨_, SqL.of hl⟩, fun G hG => ?_⟩
  refine lc_it (walk_list (K := K) (a := L) (xs := nats left)) (fun i H' => H' = upd H G (.lst (nats (earlyIn rs (left.take i) k)))) rfl (fun i H' _ e => by rw [e]; exact SqL.of (same_new hG _ _ hl)) ?_ ?_
  · rintro i x H2 H3 hi rfl ⟨rfl, hx⟩
    have hi2 : i < left.length := by unfold nats at hi; rw [List.length_map] at hi; exact hi
    have ex : x = .int (left[i] : Nat) := by
      unfold nats at hx
      rw [List.getElem?_map, List.getElem?_eq_getElem hi2] at hx
      exact (Option.some.inj hx).symm
    subst ex
    have tk : earlyIn rs (left.take (i + 1)) k = earlyIn rs (left.take i) k ++ (if (!decide (left[i] = k) && aheadI rs left[i] k) = true then [left[i]] else []) := by
      unfold earlyIn
      rw [List.take_add_one, List.getElem?_eq_getElem hi2, List.filter_append]
      congr 1
      show List.filter _ [left[i]] = _
      rw [List.filter_cons]
      rfl
    rw [tk]
    have ln : (nats (earlyIn rs (left.take i) k)).length < sizeLine := by
      unfold nats earlyIn
      rw [List.length_map]
      refine Nat.lt_of_le_of_lt (Nat.le_trans (List.length_filter_le _ _) (show _ ≤ 1000 from ?_)) (by decide)
      rw [List.length_take]
      omega
    have hlt := in_ left[i] (List.getElem_mem hi2)
    have hr2 : RowsAt (upd H G (.lst (nats (earlyIn rs (left.take i) k)))) a rs := hr.mono (same_new hG)
    generalize left[i] = m at hlt
    generalize earlyIn rs (left.take i) k = us at ln hr2 ⊢
    have em : rs[m]? = some rs[m] := List.getElem?_eq_getElem hlt
    have ai : aheadI rs m k = ahead rs[m] r := by unfold aheadI; rw [em, er]
    refine ⟨rfl, .int m, rfl, .int k, rfl, rfl, !decide (m = k), ?_, ?_⟩
    · congr 2
      by_cases e : m = k
      · rw [decide_eq_true e, decide_eq_true (by rw [e])]
      · rw [decide_eq_false e, decide_eq_false (show ¬ V.int (m : Int) = V.int (k : Int) from fun z => e (Int.ofNat.inj (V.int.inj z)))]
    cases c : decide (m = k) with
    | true =>
      refine iteF' (iteF' ?_)
      show _ = _
      rw [if_neg (fun z => nomatch z), List.append_nil]
    | false =>
      obtain ⟨p1, xs1, sq1, at1, h1⟩ := hr2.at (K := K) em
      obtain ⟨p2, xs2, sq2, at2, h2⟩ := hr2.at (K := K) er
      refine iteT' ⟨.ref a, rfl, .int m, rfl, Sq.ix (.inl sq1) at1 ⟨.ref a, rfl, .int k, rfl, Sq.ix (.inl sq2) at2 ⟨p1, p2, rs[m], r, rfl, h1, h2, aheadI rs m k, by rw [ai], ?_⟩⟩⟩
      cases c2 : aheadI rs m k with
      | false =>
        refine iteF' ?_
        show _ = _
        rw [if_neg (fun z => nomatch z), List.append_nil]
      | true =>
        refine iteT' ⟨_, rfl, _, upd_same, ln, ?_⟩
        rw [upd_upd, if_pos (show (!false && true) = true from rfl)]
        unfold nats
        rw [List.map_append]
        rfl
  · rintro H2 rfl
    have e0 : left.take (nats left).length = left := by
      unfold nats
      rw [List.length_map, List.take_of_length_le (Nat.le_refl _)]
    rw [e0]
    exact go G hG
end
end K37
end

section
set_option Elab.async false
set_option linter.all false
set_option maxRecDepth 100000
set_option maxHeartbeats 4000000
/-! one further place of an order -/
namespace K37
open PySem L2 KZ
section
variable {P : Program} {w : World} {K : PySem.W.Frag} {mg : Str → Option Value} {base : Heap}
theorem nats_ints (l : List Nat) : nats l = (l.map fun (i : Nat) => (i : Int)).map V.int := by
  unfold nats
  rw [List.map_map]
  rfl
theorem fits_eq {rs : List Row} {k : Nat} {r : Row} {last : Option Int} (er : rs[k]? = some r) : fitsB rs k last = (!r.g || decide (r.t = last)) := by unfold fitsB; rw [er]
theorem last_eq {rs : List Row} {k : Nat} {r : Row} {last : Option Int} (er : rs[k]? = some r) : lastB' rs k last = if r.g = false then some (k : Int) else last := by unfold lastB'; rw [er]
theorem fit_test {a M Lc D q L G : Addr} {x3 x10 : Option V} {last : Option Int} {rs : List Row} {early : List Nat} {k : Nat} {r : Row} {H : Hp} {Q : Bool → Hp → Prop} (hr : RowsAt H a rs) (er : rs[k]? = some r) (hg : H G = some (.lst (nats early)))
    (go : ∀ H', Same H H' → Q (early.isEmpty && fitsB rs k last) H') :
    tAnd (tTest (tOp (rEqD K) (tVar 9) (tLst tNil))) (tOr (tTest (tOp rEq (tOp (rIx K) (tOp (rIx K) (tVar 0) (tVar 8)) (tC (.int 1))) (tC (.str "put")))) (tTest (tOp rEq (tOp (rIx K) (tOp (rIx K) (tVar 0) (tVar 8)) (tC (.int 4))) (tVar 6))))
      [some (.ref a), some (.ref M), some (.ref Lc), x3, some (.ref D), some (.ref q), some (oV last), some (.ref L), some (.int k), some (.ref G), x10] H Q := by
  refine ⟨.ref G, rfl, Nat.zero_le _, fun l hl => ⟨_, _, Dp.lst (SqL.of (same_new hl _ _ (nats_ints early ▸ hg))) (dp_ints _), Dp.lst (SqL.of upd_same) .nil, shaped_ints _, by decide +kernel, _, rfl, ?_⟩⟩
  have s1 : Same H (upd H l (.lst [])) := same_new hl
  have hr1 := hr.mono s1
  have go := go _ s1
  rw [eqv_nil, List.isEmpty_map]
  generalize upd H l (.lst []) = H1 at s1 hr1 go ⊢
  cases he : early.isEmpty with
  | false =>
    rw [he] at go
    exact iteF' go
  | true =>
    rw [he, Bool.true_and, fits_eq er] at go
    obtain ⟨p, xs, sq, at1, hp⟩ := hr1.at (K := K) er
    have sqp : Sq K H1 p (rowV r) := .inr (SqT.of hp)
    refine iteT' ⟨.ref a, rfl, .int k, rfl, Sq.ix (.inl sq) at1 (Sq.ix sqp (show atI (rowV r) 1 = some (.str (wd r.g)) from at_nat (i := 1) rfl) ⟨rfl, !r.g, (by cases r.g <;> decide +kernel), ?_⟩)⟩
    cases hgv : r.g with
    | false =>
      rw [hgv] at go
      exact iteT' go
    | true =>
      rw [hgv] at go
      refine iteF' ⟨.ref a, rfl, .int k, rfl, Sq.ix (.inl sq) at1 (Sq.ix sqp (show atI (rowV r) 4 = some (oV r.t) from at_nat (i := 4) rfl) ⟨oV last, rfl, (by cases r.t <;> cases last <;> rfl), decide (r.t = last), by rw [← eq_oV], go⟩)⟩
theorem app_go {a M Lc D q L G : Addr} {x3 x10 : Option V} {last : Option Int} {rs : List Row} {o : List Nat} {k : Nat} {r : Row} {H : Hp} {Q : VK} {xs : List V} (hr : RowsAt H a rs) (er : rs[k]? = some r) (ho : TupD H q (nats o)) (hd : H D = some (.lst xs)) (ld : xs.length < sizeLine) (lo : o.length ≤ 1000)
    (go : ∀ t H', Same H H' → OLAt H' t (o ++ [k], lastB' rs k last) → H' D = some (.lst xs) → Q .non (upd H' D (.lst (xs ++ [.ref t])))) :
    tBM K "list" rAppend (tVar 4) (tCons (tTup (tCons (tOp (rCatD K) (tVar 5) (tTupD (tCons (tVar 8) tNil))) (tCons (tIf (tTest (tOp rEq (tOp (rIx K) (tOp (rIx K) (tVar 0) (tVar 8)) (tC (.int 1))) (tC (.str "put")))) (tVar 8) (tVar 6)) tNil))) tNil)
      [some (.ref a), some (.ref M), some (.ref Lc), x3, some (.ref D), some (.ref q), some (oV last), some (.ref L), some (.int k), some (.ref G), x10] H Q := by
  refine ⟨.ref D, rfl, .inl ⟨rfl, _, SqL.of hd⟩, .ref q, rfl, .int k, rfl, (by show 1 ≤ sizeLine; decide), fun u ob0 hu hd0 => ?_⟩
  have s1 : Same H (upd H u (.frz ob0 (.tup [.int k]))) := same_new hu
  have hu1 : TupD (upd H u (.frz ob0 (.tup [.int k]))) u [.int k] := ⟨ob0, hd0, upd_same⟩
  generalize upd H u (.frz ob0 (.tup [.int k])) = H1 at s1 hu1 ⊢
  have fin : ∀ z H2, Same H H2 → TupD H2 z (nats (o ++ [k])) → tCons (tIf (tTest (tOp rEq (tOp (rIx K) (tOp (rIx K) (tVar 0) (tVar 8)) (tC (.int 1))) (tC (.str "put")))) (tVar 8) (tVar 6)) tNil
      [some (.ref a), some (.ref M), some (.ref Lc), x3, some (.ref D), some (.ref q), some (oV last), some (.ref L), some (.int k), some (.ref G), x10] H2 fun xs2 H3 => (V.ref z :: xs2).length ≤ sizeLine ∧ ∀ p, H3 p = none → rAppend (.ref D) [.ref p] (upd H3 p (.tup (V.ref z :: xs2))) Q := fun z H2 s2 hz => by
    obtain ⟨p, xs1, sq, at1, hp⟩ := (hr.mono s2).at (K := K) er
    have sqp : Sq K H2 p (rowV r) := .inr (SqT.of hp)
    have end_ : ∀ v, v = oV (lastB' rs k last) → [V.ref z, v].length ≤ sizeLine ∧ ∀ p, H2 p = none → rAppend (.ref D) [.ref p] (upd H2 p (.tup [V.ref z, v])) Q := fun v ev => by
      subst ev
      refine ⟨by show 2 ≤ sizeLine; decide, fun p hp2 => ?_⟩
      have s3 := s2.trans (same_new (o := .tup [V.ref z, oV (lastB' rs k last)]) hp2)
      exact ⟨D, xs, .ref p, rfl, rfl, s3 _ _ hd, ld, go p _ s3 ⟨z, upd_same, hz.mono fun ob e => by rw [upd_ne (ne_of_none e hp2)]; exact e⟩ (s3 _ _ hd)⟩
    refine ⟨.ref a, rfl, .int k, rfl, Sq.ix (.inl sq) at1 (Sq.ix sqp (show atI (rowV r) 1 = some (.str (wd r.g)) from at_nat (i := 1) rfl) ⟨rfl, !r.g, (by cases r.g <;> decide +kernel), ?_⟩)⟩
    cases hgv : r.g with
    | false => exact iteT' ⟨.int k, rfl, end_ _ (by rw [last_eq er, if_pos hgv]; rfl)⟩
    | true => exact iteF' ⟨oV last, rfl, end_ _ (by rw [last_eq er, if_neg (by rw [hgv]; exact fun z => nomatch z)])⟩
  refine ⟨q, u, nats o, [.int k], rfl, rfl, (ho.mono fun _ e => s1 _ _ e).sq, hu1.sq, ?_, fun e => ?_, fun _ e => (by cases e), fun _ _ z ob hz hd => ?_⟩
  · unfold nats
    rw [List.length_map]
    exact Nat.le_trans (Nat.add_le_add_right lo _) (show 1000 + 1 ≤ sizeLine by decide)
  · refine fin u H1 s1 ?_
    have : o = [] := by
      cases o with
      | nil => rfl
      | cons _ _ => cases e
    rw [this]
    exact hu1
  · refine fin z _ (s1.trans (same_new hz)) ?_
    refine ⟨ob, hd, ?_⟩
    rw [upd_same]
    unfold nats
    rw [List.map_append]
    rfl
end
end K37
end

section
set_option Elab.async false
set_option linter.all false
set_option maxRecDepth 100000
set_option maxHeartbeats 4000000
/-! all orders, by the law: the walk -/
namespace K37
open PySem L2 KZ
def OrdersAt (H : Hp) (L : Addr) (os : List (List Nat)) : Prop := ∃ ts : List Addr, H L = some (.lst (ts.map V.ref)) ∧ Paired (fun t o => TupD H t (nats o)) ts os
def spLOrders : Sp := fun vs H Q _ => ∃ a rs, vs = [.ref a] ∧ RowsAt H a rs ∧ rs.length ≤ 7 ∧ (∀ r ∈ rs, r.Ok) ∧ firstBad rs = none ∧ ∀ L H', Same H H' → OrdersAt H' L (ordersOf rs) → Q (.ref L) H'
theorem parts_le (rs : List Row) : (partsOf rs).length ≤ rs.length := by
  unfold partsOf
  exact Nat.le_trans (List.length_filter_le _ _) (by simp)
theorem parts_lt {rs : List Row} {i : Nat} (h : i ∈ partsOf rs) : i < rs.length := by
  unfold partsOf at h
  exact List.mem_range.mp (List.mem_filter.mp h).1
theorem left_sub {mine o : List Nat} {i : Nat} (h : i ∈ leftOf mine o) : i ∈ mine := (List.mem_filter.mp h).1
theorem asg_go {t : TE} {g : TG} {D : Ends} {σ : L2.St} {H : Hp} (h : t σ H fun v H1 => g v σ H1 D.nx) : tAsg t g D σ H := h
theorem ifs_go {c : TT} {t u : TS} {D : Ends} {σ : L2.St} {H : Hp} (h : c σ H fun b H1 => if b = true then t D σ H1 else u D σ H1) : tIfS c t u D σ H := h
theorem drop_go {t : TE} {D : Ends} {σ : L2.St} {H : Hp} (h : t σ H fun _ H1 => D.nx σ H1) : tDrop t D σ H := h
theorem paired_at {α β : Type} {p : α → β → Prop} : ∀ {xs : List α} {ys : List β} (_ : Paired p xs ys) {i : Nat} (h1 : i < xs.length) (h2 : i < ys.length), p xs[i] ys[i]
  | _ :: _, _ :: _, .cons a _, 0, _, _ => a
  | _ :: _, _ :: _, .cons _ b, i + 1, h1, h2 => paired_at b (i := i) (Nat.lt_of_succ_lt_succ h1) (Nat.lt_of_succ_lt_succ h2)
section
variable {P : Program} {w : World} {K : PySem.W.Frag} {mg : Str → Option Value} {base : Heap}
theorem scLOrders : FnScope ["rows", "mine", "line", "turn", "later", "order", "last", "left", "at", "early", "one"] ["rows"] (defScope sLOrders) := ⟨rfl, rfl, rfl, by decide +kernel, rfl, by decide +kernel, by decide +kernel⟩
theorem ok_lorders {f : Addr} {fd : FuncData} (F : Fun K "_law_orders" "_law_orders" sLOrders f fd) (T : B1 mg) (parts : Cal P w K mg base "_law_parts" 1 ["rows"] spLParts) (ah : Cal P w K mg base "_law_ahead" 1 ["one", "other"] spLAhead) : FnOk P w K mg base CX0 2 f fd ["rows"] spLOrders := by
  obtain ⟨fP, dP, gP, GP, kP, bP⟩ := parts.ex
  obtain ⟨fA, dA, gA, GA, kA, bA⟩ := ah.ex
  refine F.ok scLOrders (fun vs H Q E h => ?_) (fun cdv A' outer s H vs Q E hr h => ?_)
  · obtain ⟨a, rs, rfl, _⟩ := h
    rfl
  · obtain ⟨a, rs, rfl, hh, hl, ok, nb, q⟩ := h
    have hr1 : Room 1 _ := hr
    refine ⟨_, (pss_cons (ps_par (i := 1) (j := 2) (by rfl) scLOrders.nd rfl rfl (by decide) rfl rfl (pa_cons (pe_call GP hr1 (by rfl) gP kP bP .nil pass0 (pa_cons (pv 0) pa_nil)) (pa_cons (pe_lst (pa_cons (pe_tup (pa_cons (pe_tupD pa_nil) (pa_cons pe_non pa_nil))) pa_nil)) pa_nil)) (by rfl))
(pss_cons (ps_for PassesOwn.never rfl (pi_range1 (by rfl) T.range (pa_cons (pe_callB call_len (by rfl) T.len PySem.boot_len (pa_cons (pv 1) pa_nil)) pa_nil)) (pg_name (i := 3) scLOrders.nd rfl (Or.inl rfl))
(pss_cons (ps_set (i := 4) scLOrders.nd rfl (Or.inl rfl) (pe_lst pa_nil))
(pss_cons (ps_for PassesOwn.never rfl (pi_list (pv 2)) (pg_tup rfl (pgs_cons (pg_name (i := 5) scLOrders.nd rfl (Or.inr rfl)) (pgs_cons (pg_name (i := 6) scLOrders.nd rfl (Or.inl rfl)) pgs_nil)))
(pss_cons (ps_setLc (i := 7) (own := [("at", 8)]) (g := gName 8) (by rfl) scLOrders.nd rfl rfl (sw_true rfl rfl rfl (by decide +kernel)) (pi_list (pv 1)) (blkOk_by (own := [("at", 8)]) (N := ["rows", "mine", "line", "turn", "later", "order", "last", "left", "at", "early", "one"]) (sc := defScope sLOrders) (by decide +kernel)) (fun _ _ _ _ _ => pg_name (i := 8) scLOrders.nd rfl (Or.inl rfl)) (fun _ _ _ _ _ => pts_one (pt_cmpR (op_notIn_seqK K) (pv 8) (pv 5) (by rfl))) (fun _ _ _ _ _ => pv 8))
(pss_one (ps_for PassesOwn.never rfl (pi_list (pv 7)) (pg_name (i := 8) scLOrders.nd rfl (Or.inr rfl))
(pss_cons (ps_setLc (i := 9) (own := [("one", 10)]) (g := gName 10) (by rfl) scLOrders.nd rfl rfl (sw_true rfl rfl rfl (by decide +kernel)) (pi_list (pv 7)) (blkOk_by (own := [("one", 10)]) (N := ["rows", "mine", "line", "turn", "later", "order", "last", "left", "at", "early", "one"]) (sc := defScope sLOrders) (by decide +kernel)) (fun _ _ _ _ _ => pg_name (i := 10) scLOrders.nd rfl (Or.inl rfl)) (fun _ _ _ _ _ => pts_one (PW.pt (pw_and (pt_cmpR op_ne (pv 10) (pv 8) (nomark _)) (pw_and1 (pt_val (pe_call GA hr1 (by rfl) gA kA bA .nil pass0 (pa_cons (pe_ix (ix_seqK K) (pv 0) (pv 10) (fun _ _ => rfl)) (pa_cons (pe_ix (ix_seqK K) (pv 0) (pv 8) (fun _ _ => rfl)) pa_nil)))))))) (fun _ _ _ _ _ => pv 10))
(pss_one (ps_if (PW.pt (pw_and (pt_cmpR (op_eqD hr.units) (pv 9) (pe_lst pa_nil) (nomark _)) (pw_and1 (PW.pt (pw_or (pt_cmpR op_eq (pe_ix (ix_seqK K) (pe_ix (ix_seqK K) (pv 0) (pv 8) (fun _ _ => rfl)) pe_int (fun _ _ => rfl)) pe_str (nomark _)) (pw_or1 (pt_cmpR op_eq (pe_ix (ix_seqK K) (pe_ix (ix_seqK K) (pv 0) (pv 8) (fun _ _ => rfl)) pe_int (fun _ _ => rfl)) (pv 6) (nomark _))))))))
(pss_one (ps_expr (pe_bm PySem.F.plainAttrs_list PySem.F.slot_list_append PySem.F.type_list_append mt_append (pv 4) (pa_cons (pe_tup (pa_cons (pe_op op_catD (pv 5) (pe_tupD (pa_cons (pv 8) pa_nil))) (pa_cons (pe_ifExp (pt_cmpR op_eq (pe_ix (ix_seqK K) (pe_ix (ix_seqK K) (pv 0) (pv 8) (fun _ _ => rfl)) pe_int (fun _ _ => rfl)) pe_str (nomark _)) (pv 8) (pv 6)) pa_nil))) pa_nil))))
pss_nil)))))))
(pss_one (ps_set (i := 2) scLOrders.nd rfl (Or.inl rfl) (pe_callTy call_list_of (by rfl) T.list (by decide +kernel) (pa_cons (pv 4) pa_nil)))))))
(pss_one (ps_ret (pe_lc (own := [("order", 5), ("last", 6)]) (tt := tYes) (by rfl) scLOrders.nd (pi_list (pv 2)) (blkOk_by (own := [("order", 5), ("last", 6)]) (N := ["rows", "mine", "line", "turn", "later", "order", "last", "left", "at", "early", "one"]) (sc := defScope sLOrders) (by decide +kernel)) (fun _ _ _ _ _ => pg_tupK (n := 2) K rfl ((pgs_cons (pg_name (i := 5) scLOrders.nd rfl (Or.inl rfl)) (pgs_cons (pg_name (i := 6) scLOrders.nd rfl (Or.inl rfl)) pgs_nil)))) (fun _ _ _ _ _ => pts_nil) (fun _ _ _ _ _ => pv 5)))))), ?_⟩
    refine ⟨.ref a, rfl, a, rs, rfl, hh, by omega, ok, nb, fun M H1 s1 hM => ⟨Nat.zero_le _, fun q0 ob0 hq0 hd0 => ⟨(by show 2 ≤ sizeLine; decide), fun t0 ht0 => ⟨(by show 1 ≤ sizeLine; decide), fun L0 hL0 => ?_⟩⟩⟩⟩
    have ml : (partsOf rs).length ≤ 7 := Nat.le_trans (parts_le rs) hl
    have s2 : Same H1 (upd (upd (upd H1 q0 (.frz ob0 (.tup []))) t0 (.tup [.ref q0, .non])) L0 (.lst [.ref t0])) := (same_new hq0).trans ((same_new ht0).trans (same_new hL0))
    have l0 : LineAt (upd (upd (upd H1 q0 (.frz ob0 (.tup []))) t0 (.tup [.ref q0, .non])) L0 (.lst [.ref t0])) [t0] (lineOf rs (partsOf rs) 0) :=
      .cons ⟨q0, by rw [upd_ne (ne_of_none (upd_same) hL0)]; exact upd_same, ob0, hd0, same_new hL0 _ _ (same_new ht0 _ _ upd_same)⟩ .nil
    have hl0 : upd (upd (upd H1 q0 (.frz ob0 (.tup []))) t0 (.tup [.ref q0, .non])) L0 (.lst [.ref t0]) L0 = some (.lst ([t0].map V.ref)) := upd_same
    generalize upd (upd (upd H1 q0 (.frz ob0 (.tup []))) t0 (.tup [.ref q0, .non])) L0 (.lst [.ref t0]) = H2 at s2 l0 hl0 ⊢
    refine ⟨_, _, rfl, ?_⟩
    have hM2 := s2 _ _ hM
    have hh2 := hh.mono (s1.trans s2)
    have nM : (nats (partsOf rs)).length = (partsOf rs).length := by unfold nats; rw [List.length_map]
    have s12 := s1.trans s2
    have mlt : ∀ i ∈ partsOf rs, i < rs.length := fun i m => parts_lt m
    have fin := q
    unfold ordersOf at fin
    generalize partsOf rs = mine at ml hM2 nM l0 mlt fin
    refine ⟨.ref M, rfl, .ref M, (nats mine).length, rfl, .inl ⟨_, SqL.of hM2, rfl⟩, ((nats mine).length : Nat), rfl, by omega, by omega, for_range (n := (nats mine).length) (fun i σ H' => ∃ Lc ts x3 x4 x5 x6 x7 x8 x9 x10, σ = [some (.ref a), some (.ref M), some (.ref Lc), x3, x4, x5, x6, x7, x8, x9, x10] ∧ H' Lc = some (.lst (ts.map V.ref)) ∧ LineAt H' ts (lineOf rs mine i) ∧ Same H2 H')
      ⟨L0, [t0], _, _, _, _, _, _, _, _, rfl, hl0, l0, Same.refl _⟩ ?_ ?_⟩
    · rintro i σ H3 hi ⟨Lc, ts, x3, x4, x5, x6, x7, x8, x9, x10, rfl, hLc, la, s3⟩
      refine ⟨Nat.zero_le _, fun D hD => ?_⟩
      have hi7 : i < 7 := by omega
      have llen : (lineOf rs mine i).length ≤ 7 ^ 7 := by
        refine Nat.le_trans (line_len rs mine i) ?_
        exact Nat.le_trans (Nat.pow_le_pow_left ml i) (Nat.pow_le_pow_right (by decide) (by omega))
      have olen := line_ord rs mine i
      have stepE : lineOf rs mine (i + 1) = (lineOf rs mine i).flatMap (nextOf rs mine) := rfl
      have llen2 : (lineOf rs mine (i + 1)).length ≤ 7 ^ 7 := by
        refine Nat.le_trans (line_len rs mine (i + 1)) ?_
        exact Nat.le_trans (Nat.pow_le_pow_left ml (i + 1)) (Nat.pow_le_pow_right (by decide) (by omega))
      rw [stepE] at llen2 ⊢
      generalize lineOf rs mine i = ls at la llen olen llen2 ⊢
      have tl : ts.length = ls.length := Paired.length la
      have hLcD := same_new (o := .lst []) hD _ _ hLc
      refine ⟨.ref Lc, rfl, Lc, rfl, ⟨_, SqL.of hLcD⟩, ?_⟩
      refine for_it (walk_list (K := K) (a := Lc) (xs := ts.map V.ref)) (fun j σ H' => ∃ us x5 x6 x7 x8 x9 x10, σ = [some (.ref a), some (.ref M), some (.ref Lc), some (.int (0 + (i : Int))), some (.ref D), x5, x6, x7, x8, x9, x10] ∧ H' D = some (.lst (us.map V.ref)) ∧ LineAt H' us ((ls.take j).flatMap (nextOf rs mine)) ∧ Same H3 H')
        ⟨[], _, _, _, _, _, _, rfl, upd_same, .nil, same_new hD⟩ (fun j σ H' _ ⟨_, _, _, _, _, _, _, _, _, _, s'⟩ => SqL.of (s' _ _ hLc)) ?_ ?_
      · rintro j x σ H4 H5 hj ⟨us, x5, x6, x7, x8, x9, x10, rfl, hD4, lu, s4⟩ ⟨rfl, hx⟩
        have hj2 : j < ts.length := by rw [List.length_map] at hj; exact hj
        have hj3 : j < ls.length := by rw [← tl]; exact hj2
        have ex : x = .ref ts[j] := by
          rw [List.getElem?_map, List.getElem?_eq_getElem hj2] at hx
          exact (Option.some.inj hx).symm
        subst ex
        obtain ⟨qo, e1, e2⟩ := paired_at la hj2 hj3
        have tk : (ls.take (j + 1)).flatMap (nextOf rs mine) = (ls.take j).flatMap (nextOf rs mine) ++ nextOf rs mine ls[j] := by
          rw [List.take_add_one, List.getElem?_eq_getElem hj3, List.flatMap_append]
          congr 1
          show [ls[j]].flatMap (nextOf rs mine) = _
          rw [List.flatMap_cons, List.flatMap_nil, List.append_nil]
        have bnd : ((ls.take j).flatMap (nextOf rs mine)).length + (nextOf rs mine ls[j]).length ≤ 7 ^ 7 := by
          rw [← List.length_append, ← tk]
          refine Nat.le_trans ?_ llen2
          have e : ls = ls.take (j + 1) ++ ls.drop (j + 1) := (List.take_append_drop _ _).symm
          conv => rhs; rw [e]
          rw [List.flatMap_append, List.length_append]
          omega
        have ol := olen ls[j] (List.getElem_mem hj3)
        rw [tk]
        generalize (ls.take j).flatMap (nextOf rs mine) = done at lu bnd ⊢
        generalize ls[j] = xl at e1 e2 bnd ol ⊢
        obtain ⟨o, last⟩ := xl
        have s14 := s12.trans (s3.trans s4)
        have e20 := e2
        replace e1 := s4 _ _ e1
        replace e2 := e2.mono fun _ e => s4 _ _ e
        have hM4 := (s3.trans s4) _ _ hM2
        refine ⟨ts[j], _, rfl, SqT.of e1, rfl, _, _, rfl, _, _, rfl, rfl, ?_⟩
        refine asg_go (left_lc (last := oV last) hM4 e2 (by omega) fun L hL => ?_)
        have lsub : ∀ k ∈ leftOf mine o, k < rs.length := fun k m => mlt k (left_sub m)
        have llen3 : (leftOf mine o).length ≤ 7 := by
          unfold leftOf
          exact Nat.le_trans (List.length_filter_le _ _) ml
        have nxt : nextOf rs mine (o, last) = nextIn rs (leftOf mine o) (o, last) (leftOf mine o) := rfl
        rw [nxt] at bnd ⊢
        have s5 := same_new (o := .lst (nats (leftOf mine o))) hL
        have hL5 : upd H5 L (.lst (nats (leftOf mine o))) L = some (.lst (nats (leftOf mine o))) := upd_same
        have nLD : L ≠ D := fun z => by rw [z, hD4] at hL; cases hL
        have hD5 := s5 _ _ hD4
        have lu5 := lu.mono fun p x _ e => s5 _ _ e
        have hh5 := hh.mono (s14.trans s5)
        have e25 := e2.mono fun _ e => s5 _ _ e
        generalize upd H5 L (.lst (nats (leftOf mine o))) = H6 at s5 hL5 hD5 lu5 hh5 e25 ⊢
        generalize hle : leftOf mine o = left at lsub llen3 bnd hL5 ⊢
        have s46 : Same H3 H6 := s4.trans s5
        refine ⟨.ref L, rfl, L, rfl, ⟨_, SqL.of hL5⟩, ?_⟩
        refine for_it (walk_list (K := K) (a := L) (xs := nats left)) (fun k σ H' => ∃ vs x8 x9 x10, σ = [some (.ref a), some (.ref M), some (.ref Lc), some (.int (0 + (i : Int))), some (.ref D), some (.ref qo), some (oV last), some (.ref L), x8, x9, x10] ∧ H' D = some (.lst (vs.map V.ref)) ∧ LineAt H' vs (done ++ nextIn rs left (o, last) (left.take k)) ∧ Same H3 H' ∧ H' L = some (.lst (nats left)))
          ⟨us, _, _, _, rfl, hD5, (by rw [List.take_zero]; exact (List.append_nil done).symm ▸ lu5), s46, hL5⟩ (fun k σ H' _ ⟨_, _, _, _, _, _, _, _, l'⟩ => SqL.of l') ?_ ?_
        · rintro k x σ H7 H8 hk ⟨vs, x8, x9, x10, rfl, hD7, lv, s7, hL7⟩ ⟨rfl, hx⟩
          have hk2 : k < left.length := by unfold nats at hk; rw [List.length_map] at hk; exact hk
          have ex : x = .int (left[k] : Nat) := by
            unfold nats at hx
            rw [List.getElem?_map, List.getElem?_eq_getElem hk2] at hx
            exact (Option.some.inj hx).symm
          subst ex
          have tk2 : nextIn rs left (o, last) (left.take (k + 1)) = nextIn rs left (o, last) (left.take k) ++ (if okNext rs left last left[k] = true then [(o ++ [left[k]], lastB' rs left[k] last)] else []) := by
            unfold nextIn
            rw [List.take_add_one, List.getElem?_eq_getElem hk2, List.filter_append, List.map_append]
            congr 1
            show List.map _ (List.filter _ [left[k]]) = _
            rw [List.filter_cons]
            cases okNext rs left last left[k] <;> rfl
          have vl : vs.length = done.length + (nextIn rs left (o, last) (left.take k)).length := by
            rw [Paired.length lv, List.length_append]
          have nl : (nextIn rs left (o, last) (left.take k)).length ≤ 7 := by
            unfold nextIn
            rw [List.length_map]
            refine Nat.le_trans (List.length_filter_le _ _) ?_
            rw [List.length_take]
            omega
          rw [tk2]
          have hlt := lsub left[k] (List.getElem_mem hk2)
          generalize nextIn rs left (o, last) (left.take k) = nx at lv vl nl ⊢
          have hbd : done.length ≤ 7 ^ 7 := by omega
          generalize hm : left[k] = m at hlt ⊢
          have er : rs[m]? = some rs[m] := List.getElem?_eq_getElem hlt
          generalize rs[m] = r at er
          have s17 := s12.trans (s3.trans s7)
          have hh7 := hh.mono s17
          have e27 := e20.mono fun _ e => s7 _ _ e
          refine asg_go (early_lc (last := oV last) hh7 hL7 (by omega) lsub er fun G hG => ?_)
          have s8 := s7.trans (same_new (o := .lst (nats (earlyIn rs left m))) hG)
          have hG8 : upd H8 G (.lst (nats (earlyIn rs left m))) G = some (.lst (nats (earlyIn rs left m))) := upd_same
          have hD8 := same_new (o := .lst (nats (earlyIn rs left m))) hG _ _ hD7
          have hL8 := same_new (o := .lst (nats (earlyIn rs left m))) hG _ _ hL7
          have lv8 := lv.mono fun p x _ e => same_new (o := .lst (nats (earlyIn rs left m))) hG _ _ e
          generalize upd H8 G (.lst (nats (earlyIn rs left m))) = H9 at s8 hG8 hD8 hL8 lv8 ⊢
          refine ifs_go (fit_test (hh.mono (s12.trans (s3.trans s8))) er hG8 fun H10 s10 => ?_)
          have s30 := s8.trans s10
          have okE : okNext rs left last m = ((earlyIn rs left m).isEmpty && fitsB rs m last) := rfl
          rw [← okE]
          cases c : okNext rs left last m with
          | false =>
            refine iteF' ⟨vs, _, _, _, rfl, s10 _ _ hD8, ?_, s30, s10 _ _ hL8⟩
            rw [if_neg (by decide), List.append_nil]
            exact lv8.mono fun p x _ e => s10 _ _ e
          | true =>
            refine iteT' (drop_go (app_go (hh.mono (s12.trans (s3.trans s30))) er (e20.mono fun _ e => s30 _ _ e) (s10 _ _ hD8) ?_ (by omega) fun t H11 s11 ot hD11 => ?_))
            · rw [List.length_map, vl]
              exact Nat.lt_of_le_of_lt (show _ ≤ 7 ^ 7 + 7 by omega) (by decide)
            · have nDt : ∀ p x, (∀ l, x ≠ HO.lst l) → H11 p = some x → upd H11 D (.lst (vs.map V.ref ++ [.ref t])) p = some x := fun p x n e => by
                rw [upd_ne (fun z => by rw [z, hD11] at e; exact n _ (Option.some.inj e).symm)]
                exact e
              have s3F := s30.trans s11
              refine ⟨vs ++ [t], _, _, _, rfl, by rw [upd_same, List.map_append]; rfl, ?_, fun b o e => ?_, ?_⟩
              · rw [if_pos rfl, ← List.append_assoc]
                refine Paired.snoc ((lv8.mono fun p x _ e => s10 _ _ e).mono fun p x n e => nDt _ _ n (s11 _ _ e)) ?_
                obtain ⟨q', h1, h2⟩ := ot
                exact ⟨q', nDt _ _ (fun _ z => nomatch z) h1, h2.mono fun _ e => nDt _ _ (fun _ z => nomatch z) e⟩
              · rw [upd_ne (ne_of_none e hD)]
                exact s3F b o e
              · rw [upd_ne nLD]
                exact s11 _ _ (s10 _ _ hL8)
        · rintro σ H7 ⟨vs, x8, x9, x10, rfl, hD7, lv, s7, hL7⟩
          have e0 : left.take (nats left).length = left := by
            unfold nats
            rw [List.length_map, List.take_of_length_le (Nat.le_refl _)]
          rw [e0] at lv
          exact ⟨vs, _, _, _, _, _, _, rfl, hD7, lv, s7⟩
      · rintro σ H4 ⟨us, x5, x6, x7, x8, x9, x10, rfl, hD4, lu, s4⟩
        rw [List.length_map, tl, List.take_of_length_le (Nat.le_refl _)] at lu
        refine ⟨.ref D, rfl, D, _, rfl, .inl (SqL.of hD4), fun L2 hL2 => ?_⟩
        exact ⟨L2, us, _, _, _, _, _, _, _, _, rfl, upd_same, lu.mono fun p x _ e => same_new hL2 _ _ e, s3.trans (s4.trans (same_new hL2))⟩
    · rintro σ H3 ⟨Lc, ts, x3, x4, x5, x6, x7, x8, x9, x10, rfl, hLc, la, s3⟩
      rw [nM] at la
      refine ⟨.ref Lc, rfl, Lc, rfl, ⟨_, SqL.of hLc⟩, fun R hR => ?_⟩
      have llen : (lineOf rs mine mine.length).length ≤ 7 ^ 7 := by
        refine Nat.le_trans (line_len rs mine mine.length) ?_
        exact Nat.le_trans (Nat.pow_le_pow_left ml _) (Nat.pow_le_pow_right (by decide) ml)
      generalize lineOf rs mine mine.length = ls at la llen fin
      have tl : ts.length = ls.length := Paired.length la
      refine lc_it (walk_list (K := K) (a := Lc) (xs := ts.map V.ref)) (fun k H' => ∃ qs : List Addr, H' R = some (.lst (qs.map V.ref)) ∧ Paired (fun t o => TupD H' t (nats o)) qs ((ls.take k).map (·.1)) ∧ Same H3 H') ⟨[], upd_same, .nil, same_new hR⟩ (fun k H' _ ⟨_, _, _, s'⟩ => SqL.of (s' _ _ hLc)) ?_ ?_
      · rintro k x H4 H5 hk ⟨qs, hR4, pq, s4⟩ ⟨rfl, hx⟩
        have hk2 : k < ts.length := by rw [List.length_map] at hk; exact hk
        have hk3 : k < ls.length := by rw [← tl]; exact hk2
        have ex : x = .ref ts[k] := by
          rw [List.getElem?_map, List.getElem?_eq_getElem hk2] at hx
          exact (Option.some.inj hx).symm
        subst ex
        obtain ⟨qo, e1, e2⟩ := paired_at la hk2 hk3
        have ql : qs.length = k := by
          rw [Paired.length pq, List.length_map, List.length_take]
          omega
        have tk : (ls.take (k + 1)).map (·.1) = (ls.take k).map (·.1) ++ [ls[k].1] := by
          rw [List.take_add_one, List.getElem?_eq_getElem hk3, List.map_append]
          rfl
        rw [tk]
        replace e1 := s4 _ _ e1
        replace e2 := e2.mono fun _ e => s4 _ _ e
        refine ⟨ts[k], _, rfl, SqT.of e1, rfl, _, _, rfl, _, _, rfl, rfl, rfl, ?_⟩
        refine yes_go ⟨_, rfl, _, hR4, ?_, qs ++ [qo], by rw [upd_same, List.map_append]; rfl, ?_, fun b o e => ?_⟩
        · rw [List.length_map, ql]
          exact Nat.lt_of_le_of_lt (show k ≤ 7 ^ 7 by omega) (by decide)
        · have nDt : ∀ p x, (∀ l, x ≠ HO.lst l) → H5 p = some x → upd H5 R (.lst (qs.map V.ref ++ [.ref qo])) p = some x := fun p x n e => by
            rw [upd_ne (fun z => by rw [z, hR4] at e; exact n _ (Option.some.inj e).symm)]
            exact e
          exact Paired.snoc (Paired.mapP pq fun _ _ z => z.mono fun _ e => nDt _ _ (fun _ y => nomatch y) e) (e2.mono fun _ e => nDt _ _ (fun _ y => nomatch y) e)
        · rw [upd_ne (ne_of_none e hR)]
          exact s4 b o e
      · rintro H4 ⟨qs, hR4, pq, s4⟩
        rw [List.length_map, tl, List.take_of_length_le (Nat.le_refl _)] at pq
        exact fin R H4 (s12.trans (s3.trans s4)) ⟨qs, hR4, pq⟩
end
end K37
end

section
set_option Elab.async false
set_option linter.all false
set_option maxRecDepth 100000
set_option maxHeartbeats 4000000
/-! the zones, by the law -/
namespace K37
open PySem L2 KZ
abbrev sLZones : Stmt := top 45
abbrev LZ : Type := List (Option Int × Option Int × Int)
def getG (l : LZ) (k : Option Int) : Option (Option Int × Int) := (l.find? fun p => decide (p.1 = k)).map (·.2)
def setG (l : LZ) (k : Option Int) (v : Option Int × Int) : LZ := if (l.any fun p => decide (p.1 = k)) = true then l.map (fun p => if p.1 = k then (p.1, v) else p) else l ++ [(k, v)]
def ZE (H : Hp) (kv : NK × V) (z : Option Int × Option Int × Int) : Prop := kv.1 = nk z.1 ∧ ∃ q, kv.2 = .ref q ∧ H q = some (.tup [oV z.2.1, .int z.2.2])
def ZD (H : Hp) (kvs : List (NK × V)) (l : LZ) : Prop := Paired (ZE H) kvs l
theorem ZD.mono {H H' : Hp} {kvs : List (NK × V)} {l : LZ} (h : ZD H kvs l) (k : ∀ p x, H p = some (.tup x) → H' p = some (.tup x)) : ZD H' kvs l := Paired.mapP h fun _ _ ⟨e, q, e1, e2⟩ => ⟨e, q, e1, k _ _ e2⟩
theorem zd_any {H : Hp} {k : Option Int} : ∀ {kvs : List (NK × V)} {l : LZ}, ZD H kvs l → (kvs.any fun kv => decide (kv.1 = nk k)) = (l.any fun z => decide (z.1 = k))
  | [], [], .nil => rfl
  | kv :: kvs, z :: l, .cons ⟨e, _⟩ b => by
    rw [List.any_cons, List.any_cons, zd_any b, e]
    congr 1
    by_cases h : z.1 = k
    · rw [decide_eq_true h, decide_eq_true (by rw [h])]
    · rw [decide_eq_false h, decide_eq_false fun y => h (nk_inj y)]
theorem zd_put {H : Hp} {kvs : List (NK × V)} {l : LZ} {k : Option Int} {v : Option Int × Int} {q : Addr} (h : ZD H kvs l) (hq : H q = some (.tup [oV v.1, .int v.2])) : ZD H (putK kvs (nk k) (.ref q)) (setG l k v) := by
  unfold putK setG
  rw [zd_any h]
  split
  · have go : ∀ {kvs : List (NK × V)} {l : LZ}, ZD H kvs l → ZD H (kvs.map fun kv => if kv.1 = nk k then (kv.1, .ref q) else kv) (l.map fun p => if p.1 = k then (p.1, v) else p) := fun h => by
      induction h with
      | nil => exact .nil
      | @cons kv z kvs l a _ ih =>
        refine .cons ?_ ih
        obtain ⟨e, q', e1, e2⟩ := a
        by_cases hk : z.1 = k
        · show ZE H (if kv.1 = nk k then (kv.1, V.ref q) else kv) (if z.1 = k then (z.1, v) else z)
          rw [if_pos hk, if_pos (show kv.1 = nk k by rw [e, hk])]
          exact ⟨e, q, rfl, hq⟩
        · show ZE H (if kv.1 = nk k then (kv.1, V.ref q) else kv) (if z.1 = k then (z.1, v) else z)
          rw [if_neg hk, if_neg (show ¬ kv.1 = nk k from fun y => hk (nk_inj (e ▸ y)))]
          exact ⟨e, q', e1, e2⟩
    exact go h
  · exact Paired.snoc h ⟨rfl, q, rfl, hq⟩
theorem zd_val {H : Hp} {k : Option Int} : ∀ {kvs : List (NK × V)} {l : LZ}, ZD H kvs l → match getG l k with
    | none => valV kvs (nk k) = none
    | some z => ∃ q, valV kvs (nk k) = some (.ref q) ∧ H q = some (.tup [oV z.1, .int z.2])
  | [], [], .nil => rfl
  | kv :: kvs, z :: l, .cons ⟨e, q, e1, e2⟩ b => by
    have ih := zd_val (k := k) b
    by_cases h : z.1 = k
    · have g : getG (z :: l) k = some z.2 := by simp [getG, h]
      rw [g]
      exact ⟨q, by rw [valV_pos (by rw [e, h]), e1], e2⟩
    · have g : getG (z :: l) k = getG l k := by simp [getG, h]
      rw [g, valV_neg (fun y => h (nk_inj (e ▸ y)))]
      exact ih
def nextE (least e : Option Int) : Option Int := match e with
  | none => least
  | some e => match least with
    | none => some e
    | some x => some (min2 x e)
def startG (k : Option Int) : Option Int × Int := (if k = none then some (-1) else none, -1)
def stepG (rs : List Row) (l : LZ) (i : Nat) : LZ := match rs[i]? with
  | none => l
  | some r => setG l (lotOf r i) (nextE ((getG l (lotOf r i)).getD (startG (lotOf r i))).1 r.e, max2 ((getG l (lotOf r i)).getD (startG (lotOf r i))).2 r.b)
def lzF (rs : List Row) (ms : List Nat) : LZ := ms.foldl (stepG rs) []
def lzOf (rs : List Row) : LZ := lzF rs (partsOf rs)
def LZAt (P : Program) (w : World) (H : Hp) (D : Addr) (l : LZ) : Prop := ∃ kvs, H D = some (DN P w D kvs) ∧ ZD H kvs l
def spLZones (P : Program) (w : World) : Sp := fun vs H Q _ => ∃ a rs, vs = [.ref a] ∧ RowsAt H a rs ∧ rs.length ≤ 1000 ∧ (∀ r ∈ rs, r.Ok) ∧ firstBad rs = none ∧ ∀ D H', Same H H' → LZAt P w H' D (lzOf rs) → Q (.ref D) H'
theorem setG_len (l : LZ) (k : Option Int) (v : Option Int × Int) : (setG l k v).length ≤ l.length + 1 := by
  unfold setG
  split
  · rw [List.length_map]; omega
  · rw [List.length_append]; exact Nat.le_refl _
theorem lzF_len (rs : List Row) : ∀ (ms : List Nat) (l : LZ), (ms.foldl (stepG rs) l).length ≤ l.length + ms.length
  | [], l => by simp
  | m :: ms, l => by
    rw [List.foldl_cons]
    have h1 := lzF_len rs ms (stepG rs l m)
    have h2 : (stepG rs l m).length ≤ l.length + 1 := by
      unfold stepG
      split
      · omega
      · exact setG_len _ _ _
    rw [List.length_cons]
    omega
section
variable {P : Program} {w : World} {K : PySem.W.Frag} {mg : Str → Option Value} {base : Heap}
theorem lotz {a D : Addr} {m : Nat} {r : Row} {x7 x8 x9 : Option V} {H : Hp} {Q : VK} (q : Q (oV (lotOf r m)) H) :
    tIf (tTest (tOp rEq (tVar 3) (tC (.str "put")))) (tVar 2) (tVar 6) [some (.ref a), some (.ref D), some (.int m), some (.str (wd r.g)), some (.int r.b), some (oV r.e), some (oV r.t), x7, x8, x9] H Q := by
  refine ⟨.str (wd r.g), rfl, rfl, !r.g, (by cases r.g <;> decide +kernel), ?_⟩
  unfold lotOf at q
  cases hg : r.g with
  | true =>
    rw [hg, if_pos rfl] at q
    exact iteF' ⟨_, rfl, q⟩
  | false =>
    rw [hg, if_neg (by decide)] at q
    exact iteT' ⟨_, rfl, q⟩
theorem getz {a D : Addr} {m : Nat} {x3 x4 x5 x6 x8 x9 : Option V} {k : Option Int} {kvs : List (NK × V)} {l : LZ} {H : Hp} {Q : VK} (hD : H D = some (DN P w D kvs)) (zd : ZD H kvs l)
    (q : ∀ Z H', Same H H' → H' Z = some (.tup [oV ((getG l k).getD (startG k)).1, .int ((getG l k).getD (startG k)).2]) → Q (.ref Z) H') :
    tNGet2P P w (tVar 1) (tVar 7) (tTup (tCons (tIf (tTest (tOp (fun x y H Q => y = V.non ∧ Q (V.bl (decide (x = V.non))) H) (tVar 7) (tC V.non))) (tUn (rU fun i => V.int (-i)) (tC (V.int 1))) (tC V.non)) (tCons (tUn (rU fun i => V.int (-i)) (tC (V.int 1))) tNil)))
      [some (.ref a), some (.ref D), some (.int m), x3, x4, x5, x6, some (oV k), x8, x9] H Q := by
  have fin : ∀ H2 S, Same H H2 → H2 S = some (.tup [oV (startG k).1, .int (-1)]) → ∃ kvs' k', Rd H2 D (DN P w D kvs') ∧ oV k = nV k' ∧ Q ((valV kvs' k').getD (.ref S)) H2 := fun H2 S s2 hS => by
    refine ⟨kvs, nk k, .inl (s2 _ _ hD), (nk_v k).symm, ?_⟩
    have zv := zd_val (k := k) zd
    cases hg : getG l k with
    | none =>
      rw [hg] at zv q
      rw [show valV kvs (nk k) = none from zv]
      exact q S H2 s2 hS
    | some z =>
      rw [hg] at zv q
      obtain ⟨qz, e1, e2⟩ := zv
      rw [e1]
      exact q qz H2 s2 (s2 _ _ e2)
  refine ⟨.ref D, rfl, D, kvs, rfl, .inl hD, oV k, rfl, oV k, rfl, rfl, k.isNone, (by cases k <;> rfl), ?_⟩
  cases k with
  | none => exact iteT' ⟨1, rfl, 1, rfl, (by show 2 ≤ sizeLine; decide), fun S hS => fin _ S (same_new hS) upd_same⟩
  | some x => exact iteF' ⟨1, rfl, (by show 2 ≤ sizeLine; decide), fun S hS => fin _ S (same_new hS) upd_same⟩
theorem putz {a D : Addr} {m : Nat} {x3 x5 x6 : Option V} {k le : Option Int} {b mo : Int} {kvs : List (NK × V)} {l : LZ} {H : Hp} {Dd : Ends} (hD : H D = some (DN P w D kvs)) (zd : ZD H kvs l) (kl : kvs.length < sizeLine)
    (go : ∀ H' kvs', H' D = some (DN P w D kvs') → ZD H' kvs' (setG l k (le, max2 mo b)) → (∀ x o, x ≠ D → H x = some o → H' x = some o) → Dd.nx [some (.ref a), some (.ref D), some (.int m), x3, some (.int b), x5, x6, some (oV k), some (oV le), some (.int mo)] H') :
    sNPutP P w (tVar 1) (tVar 7) (tTup (tCons (tVar 8) (tCons (tCB (fun xs H Q => ∃ i j, xs = [V.int i, V.int j] ∧ Q (V.int (if j > i then j else i)) H) (tCons (tCB (fun xs H Q => (∃ i, xs = [V.int i] ∧ Q (V.int i) H) ∨ ∃ k, xs = [V.bl k] ∧ Q (V.int (if k = true then 1 else 0)) H) (tCons (tVar 9) tNil)) (tCons (tCB (fun xs H Q => (∃ i, xs = [V.int i] ∧ Q (V.int i) H) ∨ ∃ k, xs = [V.bl k] ∧ Q (V.int (if k = true then 1 else 0)) H) (tCons (tVar 4) tNil)) tNil))) tNil))) Dd
      [some (.ref a), some (.ref D), some (.int m), x3, some (.int b), x5, x6, some (oV k), some (oV le), some (.int mo)] H := by
  refine ⟨oV le, rfl, .int mo, rfl, .inl ⟨mo, rfl, .int b, rfl, .inl ⟨b, rfl, mo, b, rfl, (by show 2 ≤ sizeLine; decide), fun W hW => ?_⟩⟩⟩
  have s1 : Same H (upd H W (.tup [oV le, .int (max2 mo b)])) := same_new hW
  have hW1 : upd H W (.tup [oV le, .int (max2 mo b)]) W = some (.tup [oV le, .int (max2 mo b)]) := upd_same
  refine ⟨.ref D, rfl, oV k, rfl, D, kvs, nk k, rfl, s1 _ _ hD, (nk_v k).symm, kl, ?_⟩
  show Dd.nx _ (upd (upd H W (.tup [oV le, .int (max2 mo b)])) D (DN P w D (putK kvs (nk k) (.ref W))))
  have hD1 := s1 _ _ hD
  generalize upd H W (.tup [oV le, .int (max2 mo b)]) = H1 at s1 hW1 hD1 ⊢
  have z1 : ZD H1 (putK kvs (nk k) (.ref W)) (setG l k (le, max2 mo b)) := zd_put (zd.mono fun p x e => s1 _ _ e) hW1
  refine go _ _ upd_same (z1.mono fun p x e => ?_) fun x o n e => by rw [upd_ne n]; exact s1 _ _ e
  rw [upd_ne (fun z => by rw [z, hD1] at e; cases e)]
  exact e
theorem scLZones : FnScope ["rows", "found", "at", "word", "begun", "ended", "told", "lot", "least", "most"] ["rows"] (defScope sLZones) := ⟨rfl, rfl, rfl, by decide +kernel, rfl, by decide +kernel, by decide +kernel⟩
theorem ok_lzones {f : Addr} {fd : FuncData} (F : Fun K "_law_zones" "_law_zones" sLZones f fd) (T : B1 mg) (parts : Cal P w K mg base "_law_parts" 1 ["rows"] spLParts) : FnOk P w K mg base CX0 2 f fd ["rows"] (spLZones P w) := by
  obtain ⟨fP, dP, gP, GP, kP, bP⟩ := parts.ex
  refine F.ok scLZones (fun vs H Q E h => ?_) (fun cdv A' outer s H vs Q E hr h => ?_)
  · obtain ⟨a, rs, rfl, _⟩ := h
    rfl
  · obtain ⟨a, rs, rfl, hh, hl, ok, nb, q⟩ := h
    have hr1 : Room 1 _ := hr
    refine ⟨_, (pss_cons (ps_set (i := 1) scLZones.nd rfl (Or.inl rfl) (pe_nnewK P w))
(pss_cons (ps_for PassesOwn.never rfl (pi_list (pe_call GP hr1 (by rfl) gP kP bP .nil pass0 (pa_cons (pv 0) pa_nil))) (pg_name (i := 2) scLZones.nd rfl (Or.inl rfl))
(pss_cons (ps_asg (pe_slice sl_tup (pe_ix (ix_seqK K) (pv 0) (pv 2) (fun _ _ => rfl)) (po_some pe_int) po_none) (pg_tup rfl (pgs_cons (pg_name (i := 3) scLZones.nd rfl (Or.inl rfl)) (pgs_cons (pg_name (i := 4) scLZones.nd rfl (Or.inl rfl)) (pgs_cons (pg_name (i := 5) scLZones.nd rfl (Or.inl rfl)) (pgs_cons (pg_name (i := 6) scLZones.nd rfl (Or.inl rfl)) pgs_nil))))))
(pss_cons (ps_set (i := 7) scLZones.nd rfl (Or.inl rfl) (pe_ifExp (pt_cmpR op_eq (pv 3) pe_str (nomark _)) (pv 2) (pv 6)))
(pss_cons (ps_asg (pe_nget2K P w (pv 1) (pv 7) (pe_tup (pa_cons (pe_ifExp (pt_cmpR op_isN (pv 7) pe_non (nomark _)) (pe_un un_neg pe_int) pe_non) (pa_cons (pe_un un_neg pe_int) pa_nil))) ⟨rfl, rfl, rfl, rfl⟩) (pg_tup rfl (pgs_cons (pg_name (i := 8) scLZones.nd rfl (Or.inl rfl)) (pgs_cons (pg_name (i := 9) scLZones.nd rfl (Or.inl rfl)) pgs_nil))))
(pss_cons (ps_if (pt_cmpR op_notN (pv 5) pe_non (nomark _))
(pss_one (ps_set (i := 8) scLZones.nd rfl (Or.inl rfl) (pe_ifExp (pt_cmpR op_isN (pv 8) pe_non (nomark _)) (pv 5) (pe_callB (call_min2 rfl) (by rfl) T.min (by decide +kernel) (pa_cons (pe_callTy call_int1 (by rfl) T.int (by decide +kernel) (pa_cons (pv 8) pa_nil)) (pa_cons (pe_callTy call_int1 (by rfl) T.int (by decide +kernel) (pa_cons (pv 5) pa_nil)) pa_nil))))))
pss_nil)
(pss_one (ps_nputK P w (pv 1) (pv 7) (pe_tup (pa_cons (pv 8) (pa_cons (pe_callB (call_max2 rfl) (by rfl) T.max (by decide +kernel) (pa_cons (pe_callTy call_int1 (by rfl) T.int (by decide +kernel) (pa_cons (pv 9) pa_nil)) (pa_cons (pe_callTy call_int1 (by rfl) T.int (by decide +kernel) (pa_cons (pv 4) pa_nil)) pa_nil))) pa_nil))) rfl)))))))
(pss_one (ps_ret (pv 1))))), ?_⟩
    refine fun D hD => ?_
    have sD : Same H (upd H D (DN P w D [])) := same_new hD
    have hD1 : upd H D (DN P w D []) D = some (DN P w D []) := upd_same
    generalize upd H D (DN P w D []) = H1 at sD hD1 ⊢
    refine ⟨.ref a, rfl, a, rs, rfl, hh.mono sD, hl, ok, nb, fun M H2 s2 hM => ?_⟩
    refine ⟨M, rfl, ⟨_, SqL.of hM⟩, ?_⟩
    have pl := parts_le rs
    have plt : ∀ i ∈ partsOf rs, i < rs.length := fun i m => parts_lt m
    unfold lzOf at q
    generalize partsOf rs = ms at hM pl plt q
    refine for_it (walk_list (K := K) (a := M) (xs := nats ms)) (fun i σ H' => ∃ x2 x3 x4 x5 x6 x7 x8 x9 kvs, σ = [some (.ref a), some (.ref D), x2, x3, x4, x5, x6, x7, x8, x9] ∧ H' D = some (DN P w D kvs) ∧ ZD H' kvs (lzF rs (ms.take i)) ∧ Same H H' ∧ H' M = some (.lst (nats ms)))
      ⟨_, _, _, _, _, _, _, _, [], rfl, s2 _ _ hD1, .nil, sD.trans s2, hM⟩ (fun i σ H' _ ⟨_, _, _, _, _, _, _, _, _, _, _, _, _, m'⟩ => SqL.of m') ?_ ?_
    · rintro i x σ H3 H4 hi ⟨x2, x3, x4, x5, x6, x7, x8, x9, kvs, rfl, hD3, zd, s3, hM3⟩ ⟨rfl, hx⟩
      have hi2 : i < ms.length := by unfold nats at hi; rw [List.length_map] at hi; exact hi
      have ex : x = .int (ms[i] : Nat) := by
        unfold nats at hx
        rw [List.getElem?_map, List.getElem?_eq_getElem hi2] at hx
        exact (Option.some.inj hx).symm
      subst ex
      have tk : lzF rs (ms.take (i + 1)) = stepG rs (lzF rs (ms.take i)) ms[i] := by
        unfold lzF
        rw [List.take_add_one, List.getElem?_eq_getElem hi2, List.foldl_append]
        rfl
      have ll : (lzF rs (ms.take i)).length ≤ 1000 := by
        have := lzF_len rs (ms.take i) []
        unfold lzF
        simp only [List.length_nil, List.length_take] at this
        omega
      have hlt := plt ms[i] (List.getElem_mem hi2)
      rw [tk]
      generalize lzF rs (ms.take i) = l at zd ll ⊢
      generalize ms[i] = m at hlt ⊢
      have er : rs[m]? = some rs[m] := List.getElem?_eq_getElem hlt
      have stE : stepG rs l m = setG l (lotOf rs[m] m) (nextE ((getG l (lotOf rs[m] m)).getD (startG (lotOf rs[m] m))).1 rs[m].e, max2 ((getG l (lotOf rs[m] m)).getD (startG (lotOf rs[m] m))).2 rs[m].b) := by
        unfold stepG
        rw [er]
      rw [stE]
      obtain ⟨p, xs, sq, at1, hp⟩ := (hh.mono s3).at (K := K) er
      generalize rs[m] = r at hp ⊢
      have kl : kvs.length < sizeLine := by
        rw [Paired.length zd]
        exact Nat.lt_of_le_of_lt ll (by decide)
      refine ⟨.ref a, rfl, .int m, rfl, Sq.ix (.inl sq) at1 ⟨1, rfl, p, rowV r, rfl, SqT.of hp, (show ¬(HT.sIx 5 0 (some 1) = 0 ∧ HT.sIx 5 5 none = 5) by decide), fun S hS => ?_⟩⟩
      have s4 := s3.trans (same_new (o := .tup (cutV (rowV r) (some 1) none)) hS)
      have hS4 : upd H4 S (.tup (cutV (rowV r) (some 1) none)) S = some (.tup [.str (wd r.g), .int r.b, oV r.e, oV r.t]) := upd_same
      have hD4 := same_new (o := .tup (cutV (rowV r) (some 1) none)) hS _ _ hD3
      have hM4 := same_new (o := .tup (cutV (rowV r) (some 1) none)) hS _ _ hM3
      have zd4 := zd.mono fun p x e => same_new (o := .tup (cutV (rowV r) (some 1) none)) hS _ _ e
      generalize upd H4 S (.tup (cutV (rowV r) (some 1) none)) = H5 at s4 hS4 hD4 hM4 zd4 ⊢
      refine ⟨S, _, rfl, SqT.of hS4, rfl, _, _, rfl, _, _, rfl, _, _, rfl, _, _, rfl, rfl, ?_⟩
      refine asg_go (lotz ?_)
      generalize lotOf r m = k
      refine asg_go (getz hD4 zd4 fun Z H6 s6 hZ => ?_)
      generalize (getG l k).getD (startG k) = cur at hZ
      refine ⟨Z, _, rfl, SqT.of hZ, rfl, _, _, rfl, _, _, rfl, rfl, ?_⟩
      have s46 := s4.trans s6
      have hD6 := s6 _ _ hD4
      have hM6 := s6 _ _ hM4
      have zd6 := zd4.mono fun p x e => s6 _ _ e
      have last : ∀ le : Option Int, le = nextE cur.1 r.e → ∀ H' kvs', H' D = some (DN P w D kvs') → ZD H' kvs' (setG l k (le, max2 cur.2 r.b)) → (∀ x o, x ≠ D → H6 x = some o → H' x = some o) →
          ∃ x2 x3 x4 x5 x6 x7 x8 x9 kvs, [some (V.ref a), some (.ref D), some (.int m), some (.str (wd r.g)), some (.int r.b), some (oV r.e), some (oV r.t), some (oV k), some (oV le), some (.int cur.2)] = [some (V.ref a), some (.ref D), x2, x3, x4, x5, x6, x7, x8, x9] ∧ H' D = some (DN P w D kvs) ∧ ZD H' kvs (setG l k (nextE cur.1 r.e, max2 cur.2 r.b)) ∧ Same H H' ∧ H' M = some (.lst (nats ms)) := fun le e H' kvs' e1 e2 e3 => by
        subst e
        exact ⟨_, _, _, _, _, _, _, _, kvs', rfl, e1, e2, fun b o eb => e3 b o (ne_of_none eb hD) (s46 _ _ eb), e3 _ _ (fun z => by rw [z, hD6] at hM6; cases hM6) hM6⟩
      dsimp only [tSeq]
      refine ifs_go ?_
      refine ⟨oV r.e, rfl, rfl, r.e.isSome, (by cases r.e <;> rfl), ?_⟩
      cases he : r.e with
      | none => exact iteF' (putz hD6 zd6 kl (by have L := last cur.1 (by rw [he]; rfl); rw [he] at L; exact L))
      | some e =>
        refine iteT' (asg_go ?_)
        refine ⟨oV cur.1, rfl, rfl, cur.1.isNone, (by cases cur.1 <;> rfl), ?_⟩
        cases hc : cur.1 with
        | none => exact iteT' ⟨_, rfl, putz (le := some e) hD6 zd6 kl (by have L := last (some e) (by rw [he, hc]; rfl); rw [he, hc] at L; exact L)⟩
        | some x => exact iteF' ⟨_, rfl, .inl ⟨x, rfl, _, rfl, .inl ⟨e, rfl, x, e, rfl, putz (le := some (min2 x e)) hD6 zd6 kl (by have L := last (some (min2 x e)) (by rw [he, hc]; rfl); rw [he, hc] at L; exact L)⟩⟩⟩
    · rintro σ H3 ⟨x2, x3, x4, x5, x6, x7, x8, x9, kvs, rfl, hD3, zd, s3, hM3⟩
      have e0 : ms.take (nats ms).length = ms := by
        unfold nats
        rw [List.length_map, List.take_of_length_le (Nat.le_refl _)]
      rw [e0] at zd
      exact ⟨_, rfl, q D H3 s3 ⟨kvs, hD3, zd⟩⟩
end
end K37
end

section
set_option linter.all false
/-! orders of asks: what one is, how one is made -/
namespace OM
structure Hst where
  mine : List Nat
  A : Nat → Nat → Bool
  put : Nat → Bool
  lot : Nat → Option Int
  nd : mine.Nodup
  lp : ∀ i, i ∈ mine → put i = true → lot i = some (i : Int)
  lg : ∀ i, i ∈ mine → ∀ x, lot i = some x → ∃ p : Nat, x = p ∧ p ∈ mine ∧ put p = true
  irr : ∀ i, A i i = false
variable (h : Hst)
/-- the last put of a row, l where there is none -/
def lastP (put : Nat → Bool) (l : Option Int) (o : List Nat) : Option Int := o.foldl (fun l i => if put i = true then some (i : Int) else l) l
/-- a row that the asks can begin with -/
structure OkSeq (o : List Nat) : Prop where
  nd : o.Nodup
  sub : ∀ i, i ∈ o → i ∈ h.mine
  step : ∀ a x b, o = a ++ x :: b → (∀ i, i ∈ h.mine → i ∉ a → i ≠ x → h.A i x = false) ∧ (h.put x = true ∨ h.lot x = lastP h.put none a)
def Full (o : List Nat) : Prop := OkSeq h o ∧ o.length = h.mine.length
/-- the same, of pairs -/
structure Good (o : List Nat) : Prop where
  pm : o.Perm h.mine
  ah : ∀ i j, i ∈ h.mine → j ∈ h.mine → i ≠ j → h.A i j = true → o.idxOf i < o.idxOf j
  pf : ∀ i (p : Nat), i ∈ h.mine → h.put i = false → h.lot i = some (p : Int) → o.idxOf p < o.idxOf i
  bl : ∀ i j k, i ∈ h.mine → j ∈ h.mine → k ∈ h.mine → h.lot i = h.lot k → o.idxOf i ≤ o.idxOf j → o.idxOf j ≤ o.idxOf k → h.lot j = h.lot i
  nf : ∀ i j, i ∈ h.mine → j ∈ h.mine → h.lot i = none → h.put j = true → o.idxOf i < o.idxOf j
section
variable {h : Hst} {put : Nat → Bool}
theorem lastP_cons (l : Option Int) (i : Nat) (o : List Nat) : lastP put l (i :: o) = lastP put (if put i = true then some (i : Int) else l) o := rfl
theorem lastP_app (l : Option Int) (a b : List Nat) : lastP put l (a ++ b) = lastP put (lastP put l a) b := by
  unfold lastP
  rw [List.foldl_append]
theorem lastP_no : ∀ {o : List Nat} {l : Option Int}, (∀ x, x ∈ o → put x = false) → lastP put l o = l
  | [], _, _ => rfl
  | i :: o, l, n => by
    rw [lastP_cons, n i List.mem_cons_self, if_neg (by decide)]
    exact lastP_no fun x m => n x (List.mem_cons_of_mem _ m)
/-- the last put, where there is one -/
theorem lastP_split : ∀ {o : List Nat}, (∃ x, x ∈ o ∧ put x = true) → ∃ a q b, o = a ++ q :: b ∧ put q = true ∧ (∀ x, x ∈ b → put x = false)
  | [], ⟨x, m, _⟩ => by cases m
  | i :: o, ⟨x, m, hx⟩ => by
    by_cases e : ∃ y, y ∈ o ∧ put y = true
    · obtain ⟨a, q, b, e1, e2, e3⟩ := lastP_split e
      exact ⟨i :: a, q, b, by rw [e1]; rfl, e2, e3⟩
    · have no : ∀ y, y ∈ o → put y = false := fun y my => by
        cases z : put y with
        | false => rfl
        | true => exact absurd ⟨y, my, z⟩ e
      rcases List.mem_cons.mp m with rfl | m
      · exact ⟨[], x, o, rfl, hx, no⟩
      · rw [no x m] at hx
        cases hx
theorem lastP_of {a b : List Nat} {q : Nat} {l : Option Int} (hq : put q = true) (no : ∀ x, x ∈ b → put x = false) : lastP put l (a ++ q :: b) = some (q : Int) := by
  rw [lastP_app, lastP_cons, if_pos hq, lastP_no no]
theorem lastP_some {o : List Nat} {x : Int} (e : lastP put none o = some x) : ∃ a q b, o = a ++ q :: b ∧ put q = true ∧ (∀ x, x ∈ b → put x = false) ∧ x = q := by
  by_cases z : ∃ x, x ∈ o ∧ put x = true
  · obtain ⟨a, q, b, e1, e2, e3⟩ := lastP_split z
    rw [e1, lastP_of e2 e3] at e
    exact ⟨a, q, b, e1, e2, e3, (Option.some.inj e).symm⟩
  · rw [lastP_no] at e
    · cases e
    · intro y my
      cases w : put y with
      | false => rfl
      | true => exact absurd ⟨y, my, w⟩ z
theorem lastP_none {o : List Nat} (e : lastP put none o = none) : ∀ x, x ∈ o → put x = false := fun y my => by
  cases w : put y with
  | false => rfl
  | true =>
    obtain ⟨a, q, b, e1, e2, e3⟩ := lastP_split (o := o) ⟨y, my, w⟩
    rw [e1, lastP_of e2 e3] at e
    cases e
/-! places -/
theorem idx_lt_of_split {a b : List Nat} {x y : Nat} (nd : (a ++ x :: b).Nodup) : y ∈ a → (a ++ x :: b).idxOf y < (a ++ x :: b).idxOf x := fun m => by
  have nx : x ∉ a := fun mx => by
    rw [List.nodup_append] at nd
    exact nd.2.2 x mx x List.mem_cons_self rfl
  rw [List.idxOf_append, if_pos m, List.idxOf_append, if_neg nx, List.idxOf_cons_self]
  have := List.idxOf_lt_length_iff.mpr m
  omega
theorem mem_of_idx_lt {a b : List Nat} {x y : Nat} (nd : (a ++ x :: b).Nodup) (my : y ∈ a ++ x :: b) (l : (a ++ x :: b).idxOf y < (a ++ x :: b).idxOf x) : y ∈ a := by
  have nx : x ∉ a := fun mx => by
    rw [List.nodup_append] at nd
    exact nd.2.2 x mx x List.mem_cons_self rfl
  by_cases m : y ∈ a
  · exact m
  · rw [List.idxOf_append, if_neg m, List.idxOf_append, if_neg nx, List.idxOf_cons_self] at l
    omega
theorem split_at {o : List Nat} {x : Nat} (m : x ∈ o) : ∃ a b, o = a ++ x :: b ∧ x ∉ a := by
  induction o with
  | nil => cases m
  | cons y o ih =>
    by_cases e : x = y
    · exact ⟨[], o, by rw [e]; rfl, fun z => nomatch z⟩
    · rcases List.mem_cons.mp m with z | m
      · exact absurd z e
      · obtain ⟨a, b, e1, e2⟩ := ih m
        refine ⟨y :: a, b, by rw [e1]; rfl, fun z => ?_⟩
        rcases List.mem_cons.mp z with z | z
        · exact e z
        · exact e2 z
theorem idx_inj {o : List Nat} {x y : Nat} (mx : x ∈ o) (my : y ∈ o) (e : o.idxOf x = o.idxOf y) : x = y := by
  have h1 := List.idxOf_lt_length_iff.mpr mx
  have h2 := List.idxOf_lt_length_iff.mpr my
  have e1 : o[o.idxOf x]'h1 = x := List.getElem_idxOf h1
  have e2 : o[o.idxOf y]'h2 = y := List.getElem_idxOf h2
  rw [← e1, ← e2]
  congr 1
theorem good_full {o : List Nat} (g : Good h o) : Full h o := by
  have nd : o.Nodup := g.pm.nodup_iff.mpr h.nd
  refine ⟨⟨nd, fun i m => g.pm.mem_iff.mp m, ?_⟩, g.pm.length_eq⟩
  rintro a x b rfl
  have mx : x ∈ h.mine := g.pm.mem_iff.mp (List.mem_append_right _ List.mem_cons_self)
  refine ⟨fun i mi na nx => ?_, ?_⟩
  · cases z : h.A i x with
    | false => rfl
    | true =>
      have l := g.ah i x mi mx nx z
      exact absurd (mem_of_idx_lt nd (g.pm.mem_iff.mpr mi) l) na
  · cases hp : h.put x with
    | true => exact .inl rfl
    | false =>
      refine .inr ?_
      cases hl : h.lot x with
      | none =>
        symm
        refine lastP_no fun y my => ?_
        cases hy : h.put y with
        | false => rfl
        | true =>
          have m2 : y ∈ h.mine := g.pm.mem_iff.mp (List.mem_append_left _ my)
          have l := g.nf x y mx m2 hl hy
          have l2 := idx_lt_of_split nd my
          omega
      | some z =>
        obtain ⟨p, rfl, mp, pp⟩ := h.lg x mx z hl
        have l := g.pf x p mx hp hl
        have pa : p ∈ a := mem_of_idx_lt nd (g.pm.mem_iff.mpr mp) l
        obtain ⟨a1, q, a2, e, hq, no⟩ := lastP_split (o := a) ⟨p, pa, pp⟩
        have mq : q ∈ h.mine := g.pm.mem_iff.mp (List.mem_append_left _ (by rw [e]; exact List.mem_append_right _ List.mem_cons_self))
        have qa : q ∈ a := by rw [e]; exact List.mem_append_right _ List.mem_cons_self
        have pq : p = q := by
          rw [e] at pa
          rcases List.mem_append.mp pa with m1 | m1
          · have nda : (a1 ++ q :: (a2 ++ x :: b)).Nodup := by
              rw [e] at nd
              simpa using nd
            have l1 : (a ++ x :: b).idxOf p < (a ++ x :: b).idxOf q := by
              have := idx_lt_of_split nda m1
              rw [e]
              simpa using this
            have l2 := idx_lt_of_split nd qa
            have lot_q := g.bl p q x mp mq mx (by rw [h.lp p mp pp, hl]) (by omega) (by omega)
            rw [h.lp q mq hq, h.lp p mp pp] at lot_q
            have := Option.some.inj lot_q
            omega
          · rcases List.mem_cons.mp m1 with z | m1
            · exact z
            · rw [no p m1] at pp
              cases pp
        rw [e, lastP_of hq no, pq]
/-- the lot at each place is the last put's -/
theorem lot_last {o : List Nat} (k : OkSeq h o) {a b : List Nat} {x : Nat} (e : o = a ++ x :: b) : h.lot x = lastP h.put none (a ++ [x]) := by
  rw [lastP_app, lastP_cons]
  show h.lot x = if h.put x = true then some (x : Int) else lastP h.put none a
  have mx : x ∈ h.mine := k.sub x (by rw [e]; exact List.mem_append_right _ List.mem_cons_self)
  rcases (k.step a x b e).2 with p | p
  · rw [if_pos p, h.lp x mx p]
  · by_cases hp : h.put x = true
    · rw [if_pos hp, h.lp x mx hp]
    · rw [if_neg hp, p]
theorem perm_of {l : List Nat} : ∀ {o : List Nat}, o.Nodup → (∀ x, x ∈ o → x ∈ l) → o.length = l.length → o.Perm l := by
  intro o
  induction o generalizing l with
  | nil =>
    intro _ _ e
    cases l with
    | nil => exact .nil
    | cons x l => cases e
  | cons x o ih =>
    intro nd sub e
    have mx := sub x List.mem_cons_self
    have p := List.perm_cons_erase mx
    obtain ⟨nx, nd2⟩ := List.nodup_cons.mp nd
    have e2 : o.length = (l.erase x).length := by
      have := p.length_eq
      rw [List.length_cons] at this e
      omega
    refine (List.Perm.cons x (ih nd2 (fun y my => ?_) e2)).trans p.symm
    have : y ∈ x :: l.erase x := p.mem_iff.mp (sub y (List.mem_cons_of_mem _ my))
    rcases List.mem_cons.mp this with z | z
    · exact absurd (z ▸ my) nx
    · exact z
theorem full_perm {o : List Nat} (f : Full h o) : o.Perm h.mine := perm_of f.1.nd f.1.sub f.2
theorem split_idx {o : List Nat} {x : Nat} {a b : List Nat} (e : o = a ++ x :: b) (nx : x ∉ a) : o.idxOf x = a.length := by
  rw [e, List.idxOf_append, if_neg nx, List.idxOf_cons_self]
  omega
/-- a stretch of one lot -/
theorem full_block {o : List Nat} (f : Full h o) {i j k : Nat} (mi : i ∈ o) (mj : j ∈ o) (mk : k ∈ o) (e : h.lot i = h.lot k) (l1 : o.idxOf i ≤ o.idxOf j) (l2 : o.idxOf j ≤ o.idxOf k) : h.lot j = h.lot i := by
  have nd := f.1.nd
  obtain ⟨ai, bi, ei, ni⟩ := split_at mi
  obtain ⟨aj, bj, ej, nj⟩ := split_at mj
  obtain ⟨ak, bk, ek, nk⟩ := split_at mk
  have li := lot_last f.1 ei
  have lj := lot_last f.1 ej
  have lk := lot_last f.1 ek
  have hi := split_idx ei ni
  have hj := split_idx ej nj
  have hk := split_idx ek nk
  -- all three are beginnings of the row
  have ti : ai ++ [i] = o.take (o.idxOf i + 1) := by
    rw [hi, ei, show ai ++ i :: bi = (ai ++ [i]) ++ bi by simp]
    rw [List.take_append_of_le_length (by simp)]
    rw [List.take_of_length_le (by simp)]
  have tj : aj ++ [j] = o.take (o.idxOf j + 1) := by
    rw [hj, ej, show aj ++ j :: bj = (aj ++ [j]) ++ bj by simp]
    rw [List.take_append_of_le_length (by simp)]
    rw [List.take_of_length_le (by simp)]
  have tk : ak ++ [k] = o.take (o.idxOf k + 1) := by
    rw [hk, ek, show ak ++ k :: bk = (ak ++ [k]) ++ bk by simp]
    rw [List.take_append_of_le_length (by simp)]
    rw [List.take_of_length_le (by simp)]
  rw [ti] at li
  rw [tj] at lj
  rw [tk] at lk
  -- what lies between
  obtain ⟨mid, em⟩ : ∃ mid, o.take (o.idxOf k + 1) = o.take (o.idxOf i + 1) ++ mid := ⟨(o.take (o.idxOf k + 1)).drop (o.idxOf i + 1), by
    have : o.take (o.idxOf i + 1) = (o.take (o.idxOf k + 1)).take (o.idxOf i + 1) := by
      rw [List.take_take, Nat.min_eq_left (by omega)]
    rw [this, List.take_append_drop]⟩
  have no : ∀ x, x ∈ mid → h.put x = false := by
    intro y my
    cases hy : h.put y with
    | false => rfl
    | true =>
      exfalso
      obtain ⟨a, q, b, e1, hq, nb⟩ := lastP_split (o := mid) ⟨y, my, hy⟩
      rw [em, e1, ← List.append_assoc, lastP_of hq nb] at lk
      have lq : lastP h.put none (o.take (o.idxOf i + 1)) = some (q : Int) := by rw [← li, e, lk]
      obtain ⟨a2, q2, b2, e2, _, _, eq⟩ := lastP_some lq
      have qq : q = q2 := by omega
      have ndk : (o.take (o.idxOf k + 1)).Nodup := List.Nodup.sublist (List.take_sublist _ _) nd
      rw [em, List.nodup_append] at ndk
      refine ndk.2.2 q ?_ q ?_ rfl
      · rw [e2, qq]
        exact List.mem_append_right _ List.mem_cons_self
      · rw [e1]
        exact List.mem_append_right _ List.mem_cons_self
  obtain ⟨mid2, em2⟩ : ∃ mid2, o.take (o.idxOf j + 1) = o.take (o.idxOf i + 1) ++ mid2 ∧ ∀ x, x ∈ mid2 → x ∈ mid := by
    refine ⟨(o.take (o.idxOf j + 1)).drop (o.idxOf i + 1), ?_, ?_⟩
    · have : o.take (o.idxOf i + 1) = (o.take (o.idxOf j + 1)).take (o.idxOf i + 1) := by
        rw [List.take_take, Nat.min_eq_left (by omega)]
      rw [this, List.take_append_drop]
    · have em' : mid = (o.take (o.idxOf k + 1)).drop (o.idxOf i + 1) := by
        rw [em]
        have hl : (o.take (o.idxOf i + 1)).length = o.idxOf i + 1 := by
          rw [List.length_take]
          have := List.idxOf_lt_length_iff.mpr mi
          omega
        exact (List.drop_left' hl).symm
      intro x mx
      rw [em']
      have : (o.take (o.idxOf j + 1)) = (o.take (o.idxOf k + 1)).take (o.idxOf j + 1) := by
        rw [List.take_take, Nat.min_eq_left (by omega)]
      rw [this, List.drop_take] at mx
      exact List.mem_of_mem_take mx
  rw [lj, em2.1, lastP_app, ← li, lastP_no fun x m => no x (em2.2 x m)]
theorem full_good {o : List Nat} (f : Full h o) : Good h o := by
  have pm := full_perm f
  have nd := f.1.nd
  have mo : ∀ {i}, i ∈ h.mine → i ∈ o := fun m => pm.mem_iff.mpr m
  refine ⟨pm, fun i j mi mj n a => ?_, fun i p mi hp hl => ?_, fun i j k mi mj mk e l1 l2 => full_block f (mo mi) (mo mj) (mo mk) e l1 l2, fun i j mi mj hl hj => ?_⟩
  · obtain ⟨a1, b1, e, nj⟩ := split_at (mo mj)
    have ia : i ∈ a1 := by
      by_cases z : i ∈ a1
      · exact z
      · have := (f.1.step a1 j b1 e).1 i mi z n
        rw [a] at this
        cases this
    rw [e] at nd ⊢
    exact idx_lt_of_split nd ia
  · obtain ⟨a1, b1, e, ni⟩ := split_at (mo mi)
    rcases (f.1.step a1 i b1 e).2 with z | z
    · rw [hp] at z; cases z
    · rw [hl] at z
      obtain ⟨a2, q, b2, e2, _, _, eq⟩ := lastP_some z.symm
      have pq : p = q := by omega
      rw [e] at nd ⊢
      exact idx_lt_of_split nd (by rw [e2, pq]; exact List.mem_append_right _ List.mem_cons_self)
  · have ne : i ≠ j := fun z => by
      rw [z, h.lp j mj hj] at hl
      cases hl
    by_cases l : o.idxOf i < o.idxOf j
    · exact l
    · exfalso
      have l2 : o.idxOf j < o.idxOf i := by
        have : o.idxOf i ≠ o.idxOf j := fun z => ne (idx_inj (mo mi) (mo mj) z)
        omega
      obtain ⟨a1, b1, e, ni⟩ := split_at (mo mi)
      have nd2 := nd
      rw [e] at nd2
      have ja : j ∈ a1 := mem_of_idx_lt nd2 (by rw [← e]; exact mo mj) (by rw [← e]; exact l2)
      have hi : h.put i = false := by
        cases z : h.put i with
        | false => rfl
        | true => rw [h.lp i mi z] at hl; cases hl
      rcases (f.1.step a1 i b1 e).2 with z | z
      · rw [hi] at z; cases z
      · rw [hl] at z
        rw [lastP_none z.symm j ja] at hj
        cases hj
theorem full_iff {o : List Nat} : Full h o ↔ Good h o := ⟨full_good, good_full⟩
/-- an order made by a key -/
theorem good_sorted {le : Nat → Nat → Bool} (tr : ∀ a b c, le a b = true → le b c = true → le a c = true) (tot : ∀ a b, (le a b || le b a) = true) (anti : ∀ a b, a ∈ h.mine → b ∈ h.mine → le a b = true → le b a = true → a = b)
    (ah : ∀ i j, i ∈ h.mine → j ∈ h.mine → i ≠ j → h.A i j = true → le i j = true) (pf : ∀ i (p : Nat), i ∈ h.mine → p ∈ h.mine → h.put i = false → h.lot i = some (p : Int) → le p i = true)
    (bl : ∀ i j k, i ∈ h.mine → j ∈ h.mine → k ∈ h.mine → h.lot i = h.lot k → le i j = true → le j k = true → h.lot j = h.lot i) (nf : ∀ i j, i ∈ h.mine → j ∈ h.mine → h.lot i = none → h.put j = true → le i j = true) :
    Good h (h.mine.mergeSort le) ∧ ∀ i j, i ∈ h.mine → j ∈ h.mine → (le i j = true ↔ (h.mine.mergeSort le).idxOf i ≤ (h.mine.mergeSort le).idxOf j) := by
  have pm := List.mergeSort_perm h.mine le
  have so := List.pairwise_mergeSort tr tot h.mine
  generalize h.mine.mergeSort le = o at pm so
  have nd : o.Nodup := pm.nodup_iff.mpr h.nd
  have mo : ∀ {i}, i ∈ h.mine → i ∈ o := fun m => pm.mem_iff.mpr m
  have refl : ∀ a, le a a = true := fun a => by
    have := tot a a
    rw [Bool.or_self] at this
    exact this
  have fw : ∀ i j, i ∈ h.mine → j ∈ h.mine → o.idxOf i ≤ o.idxOf j → le i j = true := fun i j mi mj l => by
    have h1 := List.idxOf_lt_length_iff.mpr (mo mi)
    have h2 := List.idxOf_lt_length_iff.mpr (mo mj)
    by_cases e : o.idxOf i = o.idxOf j
    · rw [idx_inj (mo mi) (mo mj) e]; exact refl j
    · have := List.pairwise_iff_getElem.mp so (o.idxOf i) (o.idxOf j) h1 h2 (by omega)
      rw [List.getElem_idxOf h1, List.getElem_idxOf h2] at this
      exact this
  have iff_ : ∀ i j, i ∈ h.mine → j ∈ h.mine → (le i j = true ↔ o.idxOf i ≤ o.idxOf j) := fun i j mi mj => by
    refine ⟨fun l => ?_, fw i j mi mj⟩
    by_cases z : o.idxOf i ≤ o.idxOf j
    · exact z
    · have := anti i j mi mj l (fw j i mj mi (by omega))
      rw [this]
      exact Nat.le_refl _
  have lt : ∀ i j, i ∈ h.mine → j ∈ h.mine → i ≠ j → le i j = true → o.idxOf i < o.idxOf j := fun i j mi mj n l => by
    have l1 := (iff_ i j mi mj).mp l
    have : o.idxOf i ≠ o.idxOf j := fun z => n (idx_inj (mo mi) (mo mj) z)
    omega
  refine ⟨⟨pm, fun i j mi mj n a => lt i j mi mj n (ah i j mi mj n a), fun i p mi hp hl => ?_, fun i j k mi mj mk e l1 l2 => bl i j k mi mj mk e (fw i j mi mj l1) (fw j k mj mk l2), fun i j mi mj hl hj => ?_⟩, iff_⟩
  · obtain ⟨q, eq, mq, hq⟩ := h.lg i mi _ hl
    have pq : p = q := by omega
    subst pq
    exact lt p i mq mi (fun z => by rw [z, hp] at hq; cases hq) (pf i p mi mq hp hl)
  · exact lt i j mi mj (fun z => by rw [z, h.lp j mj hj] at hl; cases hl) (nf i j mi mj hl hj)
end
end OM
end

section
set_option linter.all false
/-! zones: when there is an order, what stands ahead in each -/
namespace OM
structure Tm extends Hst where
  b : Nat → Int
  e : Nat → Option Int
  Ae : ∀ i j, A i j = (match e i with
    | none => false
    | some x => decide (x < b j))
  b0 : ∀ i, i ∈ mine → 0 ≤ b i
  be : ∀ i x, i ∈ mine → e i = some x → b i < x
  /-- the greatest begin, the least end of a lot -/
  B : Option Int → Int
  E : Option Int → Int
  Bmax : ∀ i, i ∈ mine → b i ≤ B (lot i)
  Bmem : ∀ i, i ∈ mine → ∃ k, k ∈ mine ∧ lot k = lot i ∧ b k = B (lot i)
  Emin : ∀ i y, i ∈ mine → e i = some y → E (lot i) ≤ y
  Emem : ∀ i, i ∈ mine → lot i ≠ none → ∃ k, k ∈ mine ∧ lot k = lot i ∧ e k = some (E (lot i))
  En : E none = -1
variable (t : Tm)
def R (x y : Option Int) : Prop := t.E x < t.B y
/-- a lot that is there -/
def Has (x : Option Int) : Prop := ∃ i, i ∈ t.mine ∧ t.lot i = x
def NoFut : Prop := ∀ i (p : Nat), i ∈ t.mine → p ∈ t.mine → t.put i = false → t.lot i = some (p : Int) → t.A i p = false
def NoOdd : Prop := ∀ x y, Has t x → Has t y → x ≠ y → ¬(R t x y ∧ R t y x)
section
variable {t : Tm}
theorem A_some {i j : Nat} (h : t.A i j = true) : ∃ x, t.e i = some x ∧ x < t.b j := by
  rw [t.Ae] at h
  cases z : t.e i with
  | none => rw [z] at h; cases h
  | some x => rw [z] at h; exact ⟨x, rfl, of_decide_eq_true h⟩
theorem A_of {i j : Nat} {x : Int} (h : t.e i = some x) (l : x < t.b j) : t.A i j = true := by
  rw [t.Ae, h]
  exact decide_eq_true l
/-- in an order a lot that ends ahead of another's begin stands ahead of it -/
theorem bef {o : List Nat} (g : Good t.toHst o) {i j : Nat} (mi : i ∈ t.mine) (mj : j ∈ t.mine) (n : t.lot i ≠ t.lot j) (r : R t (t.lot i) (t.lot j)) : o.idxOf i < o.idxOf j := by
  have mo : ∀ {i}, i ∈ t.mine → i ∈ o := fun m => g.pm.mem_iff.mpr m
  by_cases hn : t.lot i = none
  · -- nothing is told: ahead of each put
    cases hl : t.lot j with
    | none => exact absurd (hn.trans hl.symm) n
    | some z =>
      obtain ⟨p, rfl, mp, pp⟩ := t.lg j mj z hl
      have l1 := g.nf i p mi mp hn pp
      cases hj : t.put j with
      | true =>
        have := t.lp j mj hj
        rw [hl] at this
        have pj : p = j := by have := Option.some.inj this; omega
        rw [← pj]
        exact l1
      | false =>
        have := g.pf j p mj hj hl
        omega
  · obtain ⟨a, ma, la, ea⟩ := t.Emem i mi hn
    obtain ⟨c, mc, lc, bc⟩ := t.Bmem j mj
    have hac : t.A a c = true := A_of ea (by rw [bc]; exact r)
    have nac : a ≠ c := fun z => n (by rw [← la, ← lc, z])
    have l := g.ah a c ma mc nac hac
    -- blocks
    by_cases z : o.idxOf i < o.idxOf j
    · exact z
    · exfalso
      have hij : o.idxOf j ≤ o.idxOf i := by omega
      -- a before c; j not behind i
      by_cases h1 : o.idxOf c ≤ o.idxOf i
      · -- a .. c .. i : the lot of a and i is one
        have := g.bl a c i ma mc mi (la.trans rfl) (by omega) h1
        exact n (by rw [← la, ← this, lc])
      · by_cases h2 : o.idxOf j ≤ o.idxOf a
        · -- j .. a .. c
          have := g.bl j a c mj ma mc lc.symm h2 (by omega)
          exact n (by rw [← la, this])
        · -- a .. j .. i
          have := g.bl a j i ma mj mi la (by omega) hij
          exact n (by rw [← la, this])
theorem no_of {o : List Nat} (g : Good t.toHst o) : NoFut t ∧ NoOdd t := by
  refine ⟨fun i p mi mp hp hl => ?_, fun x y ⟨i, mi, ei⟩ ⟨j, mj, ej⟩ n ⟨r1, r2⟩ => ?_⟩
  · cases z : t.A i p with
    | false => rfl
    | true =>
      have l1 := g.pf i p mi hp hl
      have l2 := g.ah i p mi mp (fun w => by rw [w] at l1; omega) z
      omega
  · subst ei ej
    have l1 := bef g mi mj n r1
    have l2 := bef g mj mi (Ne.symm n) r2
    omega
/-! an order by a key -/
def lex (f : Nat → Int) (le : Nat → Nat → Bool) (i j : Nat) : Bool := decide (f i < f j) || (decide (f i = f j) && le i j)
theorem lex_iff {f : Nat → Int} {le : Nat → Nat → Bool} {i j : Nat} : lex f le i j = true ↔ f i < f j ∨ (f i = f j ∧ le i j = true) := by
  unfold lex
  rw [Bool.or_eq_true, Bool.and_eq_true, decide_eq_true_iff, decide_eq_true_iff]
structure TO (le : Nat → Nat → Bool) : Prop where
  tr : ∀ a b c, le a b = true → le b c = true → le a c = true
  tot : ∀ a b, (le a b || le b a) = true
  anti : ∀ a b, le a b = true → le b a = true → a = b
theorem to_lex {f : Nat → Int} {le : Nat → Nat → Bool} (h : TO le) : TO (lex f le) := by
  refine ⟨fun a b c h1 h2 => ?_, fun a b => ?_, fun a b h1 h2 => ?_⟩
  · rw [lex_iff] at h1 h2 ⊢
    rcases h1 with h1 | ⟨h1, h1'⟩ <;> rcases h2 with h2 | ⟨h2, h2'⟩
    · exact .inl (by omega)
    · exact .inl (by omega)
    · exact .inl (by omega)
    · exact .inr ⟨by omega, h.tr a b c h1' h2'⟩
  · rw [Bool.or_eq_true, lex_iff, lex_iff]
    have := h.tot a b
    rw [Bool.or_eq_true] at this
    by_cases z : f a < f b
    · exact .inl (.inl z)
    · by_cases y : f b < f a
      · exact .inr (.inl y)
      · have e : f a = f b := by omega
        rcases this with w | w
        · exact .inl (.inr ⟨e, w⟩)
        · exact .inr (.inr ⟨e.symm, w⟩)
  · rw [lex_iff] at h1 h2
    rcases h1 with h1 | ⟨h1, h1'⟩ <;> rcases h2 with h2 | ⟨h2, h2'⟩
    · omega
    · omega
    · omega
    · exact h.anti a b h1' h2'
theorem to_nat : TO (fun i j => decide (i ≤ j)) := by
  refine ⟨fun a b c h1 h2 => ?_, fun a b => ?_, fun a b h1 h2 => ?_⟩
  · have := of_decide_eq_true h1
    have := of_decide_eq_true h2
    exact decide_eq_true (by omega)
  · rw [Bool.or_eq_true, decide_eq_true_iff, decide_eq_true_iff]
    omega
  · have := of_decide_eq_true h1
    have := of_decide_eq_true h2
    omega
def code : Option Int → Int
  | none => -1
  | some x => x
/-- the key: a part of the lots behind; the sum of a lot; the lot; the put first; a number of each get -/
def leK (t : Tm) (D : Option Int → Bool) (κ : Nat → Int) : Nat → Nat → Bool :=
  lex (fun i => if D (t.lot i) = true then 1 else 0) (lex (fun i => t.E (t.lot i) + t.B (t.lot i)) (lex (fun i => code (t.lot i)) (lex (fun i => if t.put i = true then 0 else 1) (lex κ fun i j => decide (i ≤ j)))))
theorem to_leK (D : Option Int → Bool) (κ : Nat → Int) : TO (leK t D κ) := to_lex (to_lex (to_lex (to_lex (to_lex to_nat))))
/-- the parts of the lots that are behind are closed -/
def Closed (t : Tm) (D : Option Int → Bool) : Prop := ∀ x y, Has t x → Has t y → D x = true → R t x y → D y = true
def Keyed (t : Tm) (κ : Nat → Int) : Prop := ∀ i j, i ∈ t.mine → j ∈ t.mine → t.put i = false → t.put j = false → t.lot i = t.lot j → t.A i j = true → κ i < κ j
theorem le_of_R {D : Option Int → Bool} {κ : Nat → Int} (no : NoOdd t) (cl : Closed t D) {i j : Nat} (mi : i ∈ t.mine) (mj : j ∈ t.mine) (n : t.lot i ≠ t.lot j) (r : R t (t.lot i) (t.lot j)) : leK t D κ i j = true := by
  have hi : Has t (t.lot i) := ⟨i, mi, rfl⟩
  have hj : Has t (t.lot j) := ⟨j, mj, rfl⟩
  unfold leK
  rw [lex_iff]
  have nr : ¬ R t (t.lot j) (t.lot i) := fun z => no _ _ hi hj n ⟨r, z⟩
  unfold R at r nr
  have sum : t.E (t.lot i) + t.B (t.lot i) < t.E (t.lot j) + t.B (t.lot j) := by omega
  have s2 : ∀ le, lex (fun i => t.E (t.lot i) + t.B (t.lot i)) le i j = true := fun le => lex_iff.mpr (.inl sum)
  cases hd : D (t.lot i) with
  | true =>
    have hdj := cl _ _ hi hj hd r
    exact .inr ⟨by rw [hdj], s2 _⟩
  | false =>
    cases hdj : D (t.lot j) with
    | true => exact .inl (by decide)
    | false => exact .inr ⟨rfl, s2 _⟩
theorem R_of_A {i j : Nat} (mi : i ∈ t.mine) (mj : j ∈ t.mine) (a : t.A i j = true) : R t (t.lot i) (t.lot j) := by
  obtain ⟨x, ex, l⟩ := A_some a
  have h1 := t.Emin i x mi ex
  have h2 := t.Bmax j mj
  unfold R
  omega
theorem code_inj {x y : Option Int} (hx : ∀ z, x = some z → 0 ≤ z) (hy : ∀ z, y = some z → 0 ≤ z) (e : code x = code y) : x = y := by
  cases x with
  | none =>
    cases y with
    | none => rfl
    | some y =>
      have := hy y rfl
      have e : (-1 : Int) = y := e
      omega
  | some x =>
    cases y with
    | none =>
      have := hx x rfl
      have e : x = (-1 : Int) := e
      omega
    | some y => exact congrArg some e
theorem lot_nn {i : Nat} (mi : i ∈ t.mine) : ∀ z, t.lot i = some z → 0 ≤ z := fun z e => by
  obtain ⟨p, rfl, _⟩ := t.lg i mi z e
  omega
theorem made {D : Option Int → Bool} {κ : Nat → Int} (nf : NoFut t) (no : NoOdd t) (cl : Closed t D) (ky : Keyed t κ) :
    Good t.toHst (t.mine.mergeSort (leK t D κ)) ∧ ∀ i j, i ∈ t.mine → j ∈ t.mine → (leK t D κ i j = true ↔ (t.mine.mergeSort (leK t D κ)).idxOf i ≤ (t.mine.mergeSort (leK t D κ)).idxOf j) := by
  have T := to_leK (t := t) D κ
  refine good_sorted T.tr T.tot (fun a b _ _ => T.anti a b) ?_ ?_ ?_ ?_
  · intro i j mi mj n a
    by_cases e : t.lot i = t.lot j
    · -- of one lot
      unfold leK
      refine lex_iff.mpr (.inr ⟨by rw [e], lex_iff.mpr (.inr ⟨by rw [e], lex_iff.mpr (.inr ⟨by rw [e], ?_⟩)⟩)⟩)
      cases hi : t.put i with
      | true =>
        cases hj : t.put j with
        | true =>
          have h1 := t.lp i mi hi
          have h2 := t.lp j mj hj
          rw [h1, h2] at e
          have := Option.some.inj e
          exact absurd (by omega) n
        | false => exact lex_iff.mpr (.inl (by rw [if_pos hi, if_neg (by rw [hj]; decide)]; decide))
      | false =>
        cases hj : t.put j with
        | true =>
          have h2 := t.lp j mj hj
          have := nf i j mi mj hi (e.trans h2)
          rw [a] at this
          cases this
        | false => exact lex_iff.mpr (.inr ⟨by rw [if_neg (by rw [hi]; decide), if_neg (by rw [hj]; decide)], lex_iff.mpr (.inl (ky i j mi mj hi hj e a))⟩)
    · exact le_of_R no cl mi mj e (R_of_A mi mj a)
  · intro i p mi mp hi hl
    obtain ⟨q, eq, mq, hq⟩ := t.lg i mi _ hl
    have pq : p = q := by omega
    subst pq
    have e : t.lot p = t.lot i := (t.lp p mq hq).trans hl.symm
    unfold leK
    refine lex_iff.mpr (.inr ⟨by rw [e], lex_iff.mpr (.inr ⟨by rw [e], lex_iff.mpr (.inr ⟨by rw [e], ?_⟩)⟩)⟩)
    exact lex_iff.mpr (.inl (by rw [if_pos hq, if_neg (by rw [hi]; decide)]; decide))
  · intro i j k mi mj mk e l1 l2
    unfold leK at l1 l2
    rw [lex_iff] at l1 l2
    simp only [← e] at l2
    have e1 : (if D (t.lot i) = true then (1 : Int) else 0) = (if D (t.lot j) = true then 1 else 0) := by omega
    rcases l1 with l1 | ⟨_, l1⟩
    · omega
    rcases l2 with l2 | ⟨_, l2⟩
    · omega
    rw [lex_iff] at l1 l2
    simp only [← e] at l2
    rcases l1 with l1 | ⟨s1, l1⟩ <;> rcases l2 with l2 | ⟨s2, l2⟩
    · omega
    · omega
    · omega
    rw [lex_iff] at l1 l2
    simp only [← e] at l2
    have ce : code (t.lot j) = code (t.lot i) := by omega
    exact code_inj (lot_nn mj) (lot_nn mi) ce
  · intro i j mi mj hi hj
    have hl := t.lp j mj hj
    refine le_of_R no cl mi mj (by rw [hi, hl]; exact fun z => nomatch z) ?_
    unfold R
    rw [hi, t.En]
    have := t.b0 j mj
    have := t.Bmax j mj
    omega
/-- the begins are a key -/
theorem keyed_b : Keyed t t.b := fun i j mi mj _ _ _ a => by
  obtain ⟨x, ex, l⟩ := A_some a
  have := t.be i x mi ex
  omega
theorem order_iff : (∃ o, Full t.toHst o) ↔ (NoFut t ∧ NoOdd t) := by
  constructor
  · rintro ⟨o, f⟩
    exact no_of (full_good f)
  · rintro ⟨nf, no⟩
    exact ⟨_, good_full (made (D := fun _ => false) (κ := t.b) nf no (fun x y _ _ z => nomatch z) keyed_b).1⟩
/-- a row of lots that leads on -/
inductive Rt (t : Tm) : Option Int → Option Int → Prop where
  | one {x y : Option Int} : Has t y → R t x y → Rt t x y
  | more {x y z : Option Int} : Rt t x y → Has t z → R t y z → Rt t x z
theorem rt_bef {o : List Nat} (g : Good t.toHst o) (no : NoOdd t) {x y : Option Int} (r : Rt t x y) (hx : Has t x) : x = y ∨ ∀ i j, i ∈ t.mine → j ∈ t.mine → t.lot i = x → t.lot j = y → o.idxOf i < o.idxOf j := by
  induction r with
  | @one y hy r =>
    by_cases e : x = y
    · exact .inl e
    · exact .inr fun i j mi mj ei ej => bef g mi mj (by rw [ei, ej]; exact e) (by rw [ei, ej]; exact r)
  | @more y z rt hz r ih =>
    obtain ⟨k, mk, ek⟩ : Has t y := by
      cases rt with
      | one h _ => exact h
      | more _ h _ => exact h
    by_cases exz : x = z
    · exact .inl exz
    refine .inr fun i j mi mj ei ej => ?_
    rcases ih with e | ih
    · exact bef g mi mj (by rw [ei, ej]; exact exz) (by rw [ei, ej, e]; exact r)
    · by_cases eyz : y = z
      · exact ih i j mi mj ei (ej.trans eyz.symm)
      · have l1 := ih i k mi mk ei ek
        have l2 := bef g mk mj (by rw [ek, ej]; exact eyz) (by rw [ek, ej]; exact r)
        omega
open Classical in
/-- of two lots one stands ahead in each order if a row of lots leads to the other -/
theorem sure_lots (nf : NoFut t) (no : NoOdd t) {i j : Nat} (mi : i ∈ t.mine) (mj : j ∈ t.mine) (n : t.lot i ≠ t.lot j) : (∀ o, Full t.toHst o → o.idxOf i < o.idxOf j) ↔ Rt t (t.lot i) (t.lot j) := by
  constructor
  · intro h
    by_cases z : Rt t (t.lot i) (t.lot j)
    · exact z
    · exfalso
      let D : Option Int → Bool := fun x => decide (x = t.lot i ∨ Rt t (t.lot i) x)
      have cl : Closed t D := fun x y hx hy d r => by
        have d := of_decide_eq_true d
        refine decide_eq_true (.inr ?_)
        rcases d with rfl | d
        · exact .one hy r
        · exact .more d hy r
      obtain ⟨g, iff_⟩ := made (D := D) (κ := t.b) nf no cl keyed_b
      have l := h _ (good_full g)
      have di : D (t.lot i) = true := decide_eq_true (.inl rfl)
      have dj : D (t.lot j) = false := decide_eq_false fun w => by
        rcases w with w | w
        · exact n w.symm
        · exact z w
      have : leK t D t.b j i = true := by
        unfold leK
        exact lex_iff.mpr (.inl (by rw [if_neg (by rw [dj]; decide), if_pos di]; decide))
      have := (iff_ j i mj mi).mp this
      omega
  · intro r o f
    rcases rt_bef (full_good f) no r ⟨i, mi, rfl⟩ with e | h
    · exact absurd e n
    · exact h i j mi mj rfl rfl
/-- of two gets of one lot one stands ahead in each order if it ends ahead of the other -/
theorem sure_gets (nf : NoFut t) (no : NoOdd t) {i j : Nat} (mi : i ∈ t.mine) (mj : j ∈ t.mine) (n : i ≠ j) (pi : t.put i = false) (pj : t.put j = false) (e : t.lot i = t.lot j) : (∀ o, Full t.toHst o → o.idxOf i < o.idxOf j) ↔ t.A i j = true := by
  constructor
  · intro h
    cases z : t.A i j with
    | true => rfl
    | false =>
      exfalso
      -- the one is moved just behind the other
      let κ : Nat → Int := fun k => if k = i then max (2 * t.b i) (2 * t.b j + 1) else 2 * t.b k
      have ky : Keyed t κ := fun a c ma mc _ _ _ hac => by
        obtain ⟨x, ex, l⟩ := A_some hac
        have hb := t.be a x ma ex
        show (if a = i then max (2 * t.b i) (2 * t.b j + 1) else 2 * t.b a) < (if c = i then max (2 * t.b i) (2 * t.b j + 1) else 2 * t.b c)
        by_cases ai : a = i
        · rw [if_pos ai]
          have ci : c ≠ i := fun w => by
            rw [ai, w, t.irr] at hac
            cases hac
          rw [if_neg ci]
          rw [ai] at ex hb
          have nx : ¬ x < t.b j := fun w => by
            rw [A_of ex w] at z
            cases z
          omega
        · rw [if_neg ai]
          by_cases ci : c = i
          · rw [if_pos ci]
            rw [ci] at l
            omega
          · rw [if_neg ci]
            omega
      obtain ⟨g, iff_⟩ := made (D := fun _ => false) (κ := κ) nf no (fun x y _ _ z => nomatch z) ky
      have l := h _ (good_full g)
      by_cases bj : 2 * t.b i < 2 * t.b j + 1
      · have : leK t (fun _ => false) κ j i = true := by
          unfold leK
          refine lex_iff.mpr (.inr ⟨rfl, lex_iff.mpr (.inr ⟨by rw [e], lex_iff.mpr (.inr ⟨by rw [e], lex_iff.mpr (.inr ⟨by rw [if_neg (by rw [pj]; decide), if_neg (by rw [pi]; decide)], lex_iff.mpr (.inl ?_)⟩)⟩)⟩)⟩)
          show (if j = i then max (2 * t.b i) (2 * t.b j + 1) else 2 * t.b j) < (if i = i then max (2 * t.b i) (2 * t.b j + 1) else 2 * t.b i)
          rw [if_neg (Ne.symm n), if_pos rfl]
          omega
        have := (iff_ j i mj mi).mp this
        omega
      · have : leK t (fun _ => false) κ j i = true := by
          unfold leK
          refine lex_iff.mpr (.inr ⟨rfl, lex_iff.mpr (.inr ⟨by rw [e], lex_iff.mpr (.inr ⟨by rw [e], lex_iff.mpr (.inr ⟨by rw [if_neg (by rw [pj]; decide), if_neg (by rw [pi]; decide)], lex_iff.mpr (.inl ?_)⟩)⟩)⟩)⟩)
          show (if j = i then max (2 * t.b i) (2 * t.b j + 1) else 2 * t.b j) < (if i = i then max (2 * t.b i) (2 * t.b j + 1) else 2 * t.b i)
          rw [if_neg (Ne.symm n), if_pos rfl]
          omega
        have := (iff_ j i mj mi).mp this
        omega
  · intro a o f
    exact (full_good f).ah i j mi mj n a
/-- a put stands ahead of all of its lot -/
theorem sure_put {i j : Nat} (mi : i ∈ t.mine) (mj : j ∈ t.mine) (n : i ≠ j) (pi : t.put i = true) (e : t.lot i = t.lot j) {o : List Nat} (f : Full t.toHst o) : o.idxOf i < o.idxOf j := by
  have hl := (t.lp i mi pi).symm.trans e
  have pj : t.put j = false := by
    cases z : t.put j with
    | false => rfl
    | true =>
      have := t.lp j mj z
      rw [← hl] at this
      exact absurd (by have := Option.some.inj this; omega) n
  exact (full_good f).pf j i mj pj hl.symm
end
end OM
end

section
set_option Elab.async false
set_option linter.all false
set_option maxRecDepth 100000
set_option maxHeartbeats 4000000
/-! a history as the orders' mathematics sees it -/
namespace K37
open PySem L2 KZ
def bI (rs : List Row) (i : Nat) : Int := match rs[i]? with
  | some r => r.b
  | none => 0
def eI (rs : List Row) (i : Nat) : Option Int := match rs[i]? with
  | some r => r.e
  | none => none
def lotI (rs : List Row) (i : Nat) : Option Int := match rs[i]? with
  | some r => lotOf r i
  | none => none
def aI (rs : List Row) (i j : Nat) : Bool := match eI rs i with
  | none => false
  | some x => decide (x < bI rs j)
theorem bI_at {rs : List Row} {i : Nat} {r : Row} (h : rs[i]? = some r) : bI rs i = r.b := by unfold bI; rw [h]
theorem eI_at {rs : List Row} {i : Nat} {r : Row} (h : rs[i]? = some r) : eI rs i = r.e := by unfold eI; rw [h]
theorem lotI_at {rs : List Row} {i : Nat} {r : Row} (h : rs[i]? = some r) : lotI rs i = lotOf r i := by unfold lotI; rw [h]
theorem put_at {rs : List Row} {i : Nat} {r : Row} (h : rs[i]? = some r) : isPutAt rs i = !r.g := by unfold isPutAt; rw [h]
theorem max_in : ∀ (bs : List Int), bs ≠ [] → ∃ m ∈ bs, ∀ y ∈ bs, y ≤ m
  | [], h => absurd rfl h
  | [b], _ => ⟨b, List.mem_cons_self, fun y m => by rw [List.mem_singleton.mp m]; exact Int.le_refl _⟩
  | b :: c :: bs, _ => by
    obtain ⟨m, mm, mu⟩ := max_in (c :: bs) (List.cons_ne_nil _ _)
    by_cases h : b ≤ m
    · exact ⟨m, List.mem_cons_of_mem _ mm, fun y my => (List.mem_cons.mp my).elim (fun e => e ▸ h) (mu y)⟩
    · exact ⟨b, List.mem_cons_self, fun y my => (List.mem_cons.mp my).elim (fun e => e ▸ Int.le_refl _) fun z => Int.le_trans (mu y z) (by omega)⟩
theorem min_in : ∀ (bs : List Int), bs ≠ [] → ∃ m ∈ bs, ∀ y ∈ bs, m ≤ y
  | [], h => absurd rfl h
  | [b], _ => ⟨b, List.mem_cons_self, fun y m => by rw [List.mem_singleton.mp m]; exact Int.le_refl _⟩
  | b :: c :: bs, _ => by
    obtain ⟨m, mm, mu⟩ := min_in (c :: bs) (List.cons_ne_nil _ _)
    by_cases h : m ≤ b
    · exact ⟨m, List.mem_cons_of_mem _ mm, fun y my => (List.mem_cons.mp my).elim (fun e => e ▸ h) (mu y)⟩
    · exact ⟨b, List.mem_cons_self, fun y my => (List.mem_cons.mp my).elim (fun e => e ▸ Int.le_refl _) fun z => Int.le_trans (by omega) (mu y z)⟩
section
variable {rs : List Row}
theorem part_row {i : Nat} (h : i ∈ partsOf rs) : ∃ r, rs[i]? = some r := by
  obtain ⟨r, e, _⟩ := mem_parts.mp h
  exact ⟨r, e⟩
theorem in_mine {i : Nat} {r : Row} (h : i ∈ partsOf rs) (e : rs[i]? = some r) : r ∈ mineR rs (lotOf r i) (partsOf rs) := mem_mine.mpr ⟨i, h, e, rfl⟩
theorem B_spec {k : Option Int} (h : hasM rs k = true) : (∃ i ∈ partsOf rs, lotI rs i = k ∧ bI rs i = (zoneM rs k).2.2) ∧ ∀ i ∈ partsOf rs, lotI rs i = k → bI rs i ≤ (zoneM rs k).2.2 := by
  obtain ⟨r0, m0⟩ := hasM_iff.mp h
  obtain ⟨m, mm, mu⟩ := max_in ((mineR rs k (partsOf rs)).map (·.b)) (fun z => by
    have : r0.b ∈ (mineR rs k (partsOf rs)).map (·.b) := List.mem_map.mpr ⟨r0, m0, rfl⟩
    rw [z] at this
    cases this)
  have e : (zoneM rs k).2.2 = m := by
    show (accB none ((mineR rs k (partsOf rs)).map (·.b))).getD 0 = m
    rw [accB_max mm mu]
    rfl
  rw [e]
  refine ⟨?_, fun i mi ei => ?_⟩
  · obtain ⟨r, mr, rfl⟩ := List.mem_map.mp mm
    obtain ⟨i, mi, er, ek⟩ := mem_mine.mp mr
    exact ⟨i, mi, by rw [lotI_at er, ek], bI_at er⟩
  · obtain ⟨r, er⟩ := part_row mi
    rw [lotI_at er] at ei
    rw [bI_at er]
    exact mu _ (List.mem_map.mpr ⟨r, ei ▸ in_mine mi er, rfl⟩)
theorem E_spec {k : Option Int} (h : hasM rs k = true) (nk : k ≠ none) : (∃ i ∈ partsOf rs, lotI rs i = k ∧ eI rs i = some (zoneM rs k).2.1) ∧ ∀ i ∈ partsOf rs, lotI rs i = k → ∀ y, eI rs i = some y → (zoneM rs k).2.1 ≤ y := by
  obtain ⟨m, mm, mu⟩ := min_in ((mineR rs k (partsOf rs)).filterMap (·.e)) (ends_some h)
  have e : (zoneM rs k).2.1 = m := by
    show (if k = none then -1 else (accE none ((mineR rs k (partsOf rs)).filterMap (·.e))).getD 0) = m
    rw [if_neg nk, accE_min mm mu]
    rfl
  rw [e]
  refine ⟨?_, fun i mi ei y ey => ?_⟩
  · obtain ⟨r, mr, er2⟩ := List.mem_filterMap.mp mm
    obtain ⟨i, mi, er, ek⟩ := mem_mine.mp mr
    exact ⟨i, mi, by rw [lotI_at er, ek], by rw [eI_at er, er2]⟩
  · obtain ⟨r, er⟩ := part_row mi
    rw [lotI_at er] at ei
    rw [eI_at er] at ey
    exact mu _ (List.mem_filterMap.mpr ⟨r, ei ▸ in_mine mi er, ey⟩)
theorem has_lot {i : Nat} (mi : i ∈ partsOf rs) : hasM rs (lotI rs i) = true := by
  obtain ⟨r, er⟩ := part_row mi
  rw [lotI_at er]
  exact hasM_iff.mpr ⟨r, in_mine mi er⟩
variable (rs)
def tmOf (ok : ∀ r ∈ rs, r.Ok) (nb : firstBad rs = none) : OM.Tm where
  mine := partsOf rs
  A := aI rs
  put := isPutAt rs
  lot := lotI rs
  nd := by unfold partsOf; exact List.Pairwise.filter _ List.nodup_range
  lp := fun i mi p => by
    obtain ⟨r, er⟩ := part_row mi
    rw [put_at er] at p
    rw [lotI_at er]
    unfold lotOf
    rw [if_neg (by intro z; rw [z] at p; cases p)]
  lg := fun i mi x ex => by
    obtain ⟨r, er⟩ := part_row mi
    rw [lotI_at er] at ex
    unfold lotOf at ex
    cases hg : r.g with
    | false =>
      rw [hg, if_neg (by decide)] at ex
      exact ⟨i, (Option.some.inj ex).symm, mi, by rw [put_at er, hg]; rfl⟩
    | true =>
      rw [hg, if_pos rfl] at ex
      obtain ⟨k, s, ek, es, gs⟩ := told_at ok nb er ex
      refine ⟨k, ek, ?_, by rw [put_at es, gs]; rfl⟩
      obtain ⟨_, t2, _⟩ := (ok r (List.mem_of_getElem? er)).tg x ex
      refine mem_parts.mpr ⟨s, es, ?_⟩
      have : isTold rs (some (k : Int)) = true := List.any_eq_true.mpr ⟨r, List.mem_of_getElem? er, by
        unfold tells
        rw [hg, ex, ek]
        cases he : r.e with
        | none => exact absurd he t2
        | some _ => simp⟩
      rw [gs, this]
      cases s.e.isSome <;> rfl
  irr := fun i => by
    unfold aI
    cases he : eI rs i with
    | none => rfl
    | some x =>
      unfold eI at he
      cases hr : rs[i]? with
      | none => rw [hr] at he; cases he
      | some r =>
        rw [hr] at he
        have := (ok r (List.mem_of_getElem? hr)).eb x he
        show decide (x < bI rs i) = false
        rw [bI_at hr]
        exact decide_eq_false (by omega)
  b := bI rs
  e := eI rs
  Ae := fun _ _ => rfl
  b0 := fun i mi => by
    obtain ⟨r, er⟩ := part_row mi
    rw [bI_at er]
    exact (ok r (List.mem_of_getElem? er)).b0
  be := fun i x mi ex => by
    obtain ⟨r, er⟩ := part_row mi
    rw [eI_at er] at ex
    rw [bI_at er]
    exact (ok r (List.mem_of_getElem? er)).eb x ex
  B := fun k => (zoneM rs k).2.2
  E := fun k => (zoneM rs k).2.1
  Bmax := fun i mi => (B_spec (has_lot mi)).2 i mi rfl
  Bmem := fun i mi => (B_spec (has_lot mi)).1
  Emin := fun i y mi ey => by
    by_cases h : lotI rs i = none
    · rw [h]
      obtain ⟨r, er⟩ := part_row mi
      rw [eI_at er] at ey
      have h1 := (ok r (List.mem_of_getElem? er)).eb y ey
      have h2 := (ok r (List.mem_of_getElem? er)).b0
      show (-1 : Int) ≤ y
      omega
    · exact (E_spec (has_lot mi) h).2 i mi rfl y ey
  Emem := fun i mi n => (E_spec (has_lot mi) n).1
  En := rfl
end
end K37
end

section
set_option Elab.async false
set_option linter.all false
set_option maxRecDepth 100000
set_option maxHeartbeats 4000000
/-! orders, zones of the law -/
namespace K37
open PySem L2 KZ
theorem snoc_split {α : Type} {o a b : List α} {k x : α} (e : o ++ [k] = a ++ x :: b) : (b = [] ∧ a = o ∧ x = k) ∨ ∃ b', b = b' ++ [k] ∧ o = a ++ x :: b' := by
  rcases List.eq_nil_or_concat b with rfl | ⟨b', z, rfl⟩
  · obtain ⟨e1, e2⟩ := List.append_inj' e rfl
    exact .inl ⟨rfl, e1.symm, (List.cons.inj e2).1.symm⟩
  · have e' : o ++ [k] = (a ++ x :: b') ++ [z] := by rw [e]; simp
    obtain ⟨e1, e2⟩ := List.append_inj' e' rfl
    exact .inr ⟨b', by rw [(List.cons.inj e2).1]; simp, e1⟩
theorem ok_snoc {h : OM.Hst} {o : List Nat} {k : Nat} : OM.OkSeq h (o ++ [k]) ↔ OM.OkSeq h o ∧ k ∈ h.mine ∧ k ∉ o ∧ (∀ i, i ∈ h.mine → i ∉ o → i ≠ k → h.A i k = false) ∧ (h.put k = true ∨ h.lot k = OM.lastP h.put none o) := by
  constructor
  · intro s
    have nd := s.nd
    rw [List.nodup_append] at nd
    refine ⟨⟨nd.1, fun i m => s.sub i (List.mem_append_left _ m), fun a x b e => ?_⟩, s.sub k (List.mem_append_right _ List.mem_cons_self), fun m => nd.2.2 k m k List.mem_cons_self rfl, ?_⟩
    · exact s.step a x (b ++ [k]) (by rw [e]; simp)
    · exact s.step o k [] rfl
  · rintro ⟨s, mk, nk, s1, s2⟩
    refine ⟨?_, fun i m => ?_, fun a x b e => ?_⟩
    · rw [List.nodup_append]
      exact ⟨s.nd, by simp, fun a ma b mb e => nk (by rw [← List.mem_singleton.mp mb, ← e]; exact ma)⟩
    · rcases List.mem_append.mp m with m | m
      · exact s.sub i m
      · rw [List.mem_singleton.mp m]
        exact mk
    · rcases snoc_split e with ⟨rfl, rfl, rfl⟩ | ⟨b', rfl, e2⟩
      · exact ⟨s1, s2⟩
      · exact s.step a x b' e2
section
variable {rs : List Row}
theorem zoneM_key (k : Option Int) : (zoneM rs k).1 = k := rfl
theorem zones_iff (ok : ∀ r ∈ rs, r.Ok) (nb : firstBad rs = none) {u : Zn} : u ∈ zonesOf rs ↔ ∃ i ∈ partsOf rs, u = zoneM rs (lotI rs i) := by
  constructor
  · intro m
    rw [zones_eq ok nb] at m
    obtain ⟨k, mk, rfl⟩ := List.mem_map.mp m
    obtain ⟨r, mr⟩ := hasM_iff.mp (List.mem_filter.mp mk).2
    obtain ⟨i, mi, er, ek⟩ := mem_mine.mp mr
    exact ⟨i, mi, by rw [lotI_at er, ek]⟩
  · rintro ⟨i, mi, rfl⟩
    obtain ⟨r, er⟩ := part_row mi
    have := zones_mem mi er
    unfold zoneOf at this
    have hm := has_lot mi
    rw [lotI_at er] at hm ⊢
    rwa [zone_eq ok hm] at this
theorem zones_keys (ok : ∀ r ∈ rs, r.Ok) (nb : firstBad rs = none) : ((zonesOf rs).map (·.1)).Nodup := by
  rw [zones_eq ok nb, List.map_map]
  have e : ((fun z : Zn => z.1) ∘ zoneM rs) = id := rfl
  rw [e, List.map_id]
  refine List.Pairwise.filter _ (List.nodup_cons.mpr ⟨fun m => ?_, ?_⟩)
  · obtain ⟨_, _, e⟩ := List.mem_map.mp m
    cases e
  · refine List.Pairwise.map _ (fun a b h e => h ?_) List.nodup_range
    exact Int.ofNat.inj (Option.some.inj e)
theorem any_in (o : List Nat) (i : Nat) : (o.any fun j => decide (j = i)) = decide (i ∈ o) := by
  by_cases h : i ∈ o
  · rw [decide_eq_true h]
    exact List.any_eq_true.mpr ⟨i, h, decide_eq_true rfl⟩
  · rw [decide_eq_false h]
    exact List.any_eq_false.mpr fun j mj z => h (of_decide_eq_true z ▸ mj)
theorem mem_left {mine o : List Nat} {i : Nat} : i ∈ leftOf mine o ↔ i ∈ mine ∧ i ∉ o := by
  unfold leftOf
  rw [List.mem_filter, any_in]
  simp
theorem aheadI_aI {i k : Nat} {r : Row} (ek : rs[k]? = some r) : aheadI rs i k = aI rs i k := by
  unfold aheadI aI
  cases hi : rs[i]? with
  | none => unfold eI; rw [hi]
  | some s => rw [ek, eI_at hi, bI_at ek]; rfl
theorem mem_line (ok : ∀ r ∈ rs, r.Ok) (nb : firstBad rs = none) : ∀ (k : Nat) (o : List Nat) (last : Option Int), (o, last) ∈ lineOf rs (partsOf rs) k ↔ OM.OkSeq (tmOf rs ok nb).toHst o ∧ o.length = k ∧ last = OM.lastP (isPutAt rs) none o
  | 0, o, last => by
    constructor
    · intro m
      cases (show (o, last) = ([], none) from List.mem_singleton.mp m)
      exact ⟨⟨List.nodup_nil, fun i m => (by cases m), fun a x b e => by cases a <;> cases e⟩, rfl, rfl⟩
    · rintro ⟨_, l, rfl⟩
      have : o = [] := List.length_eq_zero_iff.mp l
      subst this
      exact List.mem_singleton.mpr rfl
  | k + 1, o', last' => by
    show (o', last') ∈ (lineOf rs (partsOf rs) k).flatMap (nextOf rs (partsOf rs)) ↔ _
    have turn : ∀ (o : List Nat) (j : Nat) (last : Option Int), last = OM.lastP (isPutAt rs) none o → ((j ∈ leftOf (partsOf rs) o ∧ okNext rs (leftOf (partsOf rs) o) last j = true) ↔
        (j ∈ partsOf rs ∧ j ∉ o ∧ (∀ i, i ∈ partsOf rs → i ∉ o → i ≠ j → aI rs i j = false) ∧ (isPutAt rs j = true ∨ lotI rs j = OM.lastP (isPutAt rs) none o))) := fun o j last el => by
      rw [mem_left]
      constructor
      · rintro ⟨⟨mj, nj⟩, c⟩
        obtain ⟨r, er⟩ := part_row mj
        unfold okNext at c
        rw [Bool.and_eq_true, fits_eq er] at c
        refine ⟨mj, nj, fun i mi ni ne => ?_, ?_⟩
        · cases z : aI rs i j with
          | false => rfl
          | true =>
            have : i ∈ earlyIn rs (leftOf (partsOf rs) o) j := List.mem_filter.mpr ⟨mem_left.mpr ⟨mi, ni⟩, by rw [aheadI_aI er, z, decide_eq_false ne]; rfl⟩
            rw [List.isEmpty_iff.mp c.1] at this
            cases this
        · rw [put_at er, lotI_at er, ← el]
          unfold lotOf
          cases hg : r.g with
          | false => exact .inl rfl
          | true =>
            refine .inr ?_
            rw [if_pos rfl]
            have c2 := c.2
            rw [hg] at c2
            exact of_decide_eq_true c2
      · rintro ⟨mj, nj, c1, c2⟩
        obtain ⟨r, er⟩ := part_row mj
        refine ⟨⟨mj, nj⟩, ?_⟩
        unfold okNext
        rw [Bool.and_eq_true, fits_eq er]
        refine ⟨List.isEmpty_iff.mpr (List.filter_eq_nil_iff.mpr fun i mi c => ?_), ?_⟩
        · rw [Bool.and_eq_true, aheadI_aI er] at c
          obtain ⟨mi1, mi2⟩ := mem_left.mp mi
          rw [c1 i mi1 mi2 (fun e => by rw [decide_eq_true e] at c; cases c.1)] at c
          cases c.2
        · rw [put_at er, lotI_at er, ← el] at c2
          unfold lotOf at c2
          cases hg : r.g with
          | false => rfl
          | true =>
            rw [hg, if_pos rfl] at c2
            rcases c2 with c2 | c2
            · cases c2
            · exact decide_eq_true c2
    have lst : ∀ (o : List Nat) (j : Nat), j ∈ partsOf rs → lastB' rs j (OM.lastP (isPutAt rs) none o) = OM.lastP (isPutAt rs) none (o ++ [j]) := fun o j mj => by
      obtain ⟨r, er⟩ := part_row mj
      rw [OM.lastP_app, OM.lastP_cons, last_eq er, put_at er]
      cases r.g <;> rfl
    constructor
    · intro m
      obtain ⟨⟨o, last⟩, mo, mn⟩ := List.mem_flatMap.mp m
      obtain ⟨s, l, el⟩ := (mem_line ok nb k o last).mp mo
      unfold nextOf nextIn at mn
      obtain ⟨j, mj, e⟩ := List.mem_map.mp mn
      obtain ⟨mj1, mj2⟩ := List.mem_filter.mp mj
      obtain ⟨t1, t2, t3, t4⟩ := (turn o j last el).mp ⟨mj1, mj2⟩
      cases e
      refine ⟨ok_snoc.mpr ⟨s, t1, t2, t3, t4⟩, ?_, ?_⟩
      · rw [List.length_append, l]; rfl
      · show lastB' rs j last = _
        rw [el]
        exact lst o j t1
    · rintro ⟨s, l, el⟩
      rcases List.eq_nil_or_concat o' with rfl | ⟨o, j, rfl⟩
      · cases l
      · rw [List.concat_eq_append] at s l el ⊢
        obtain ⟨s0, t1, t2, t3, t4⟩ := ok_snoc.mp s
        have l0 : o.length = k := by rw [List.length_append] at l; simpa using l
        refine List.mem_flatMap.mpr ⟨(o, OM.lastP (isPutAt rs) none o), (mem_line ok nb k o _).mpr ⟨s0, l0, rfl⟩, ?_⟩
        obtain ⟨m1, m2⟩ := (turn o j _ rfl).mpr ⟨t1, t2, t3, t4⟩
        unfold nextOf nextIn
        exact List.mem_map.mpr ⟨j, List.mem_filter.mpr ⟨m1, m2⟩, by rw [el, ← lst o j t1]⟩
theorem mem_orders (ok : ∀ r ∈ rs, r.Ok) (nb : firstBad rs = none) {o : List Nat} : o ∈ ordersOf rs ↔ OM.Full (tmOf rs ok nb).toHst o := by
  unfold ordersOf OM.Full
  constructor
  · intro m
    obtain ⟨⟨o', last⟩, mo, rfl⟩ := List.mem_map.mp m
    obtain ⟨s, l, _⟩ := (mem_line ok nb _ o' last).mp mo
    exact ⟨s, l⟩
  · rintro ⟨s, l⟩
    exact List.mem_map.mpr ⟨(o, _), (mem_line ok nb _ o _).mpr ⟨s, l, rfl⟩, rfl⟩
end
abbrev Bz (rs : List Row) (k : Option Int) : Int := (zoneM rs k).2.2
abbrev Ez (rs : List Row) (k : Option Int) : Int := (zoneM rs k).2.1
def HasL (rs : List Row) (k : Option Int) : Prop := ∃ i ∈ partsOf rs, lotI rs i = k
section
variable {rs : List Row}
theorem HasL.m {k : Option Int} (h : HasL rs k) : hasM rs k = true := by
  obtain ⟨i, mi, rfl⟩ := h
  exact has_lot mi
theorem B_is {k : Option Int} {m : Int} (h : ∃ i ∈ partsOf rs, lotI rs i = k ∧ bI rs i = m) (u : ∀ i ∈ partsOf rs, lotI rs i = k → bI rs i ≤ m) : Bz rs k = m := by
  obtain ⟨i, mi, li, bi⟩ := h
  obtain ⟨⟨j, mj, lj, bj⟩, up⟩ := B_spec (HasL.m ⟨i, mi, li⟩)
  have h1 := up i mi li
  have h2 := u j mj lj
  show (zoneM rs k).2.2 = m
  omega
theorem E_is {k : Option Int} {m : Int} (nk : k ≠ none) (h : ∃ i ∈ partsOf rs, lotI rs i = k ∧ eI rs i = some m) (u : ∀ i ∈ partsOf rs, lotI rs i = k → ∀ y, eI rs i = some y → m ≤ y) : Ez rs k = m := by
  obtain ⟨i, mi, li, ei⟩ := h
  obtain ⟨⟨j, mj, lj, ej⟩, up⟩ := E_spec (HasL.m ⟨i, mi, li⟩) nk
  have h1 := up i mi li m ei
  have h2 := u j mj lj _ ej
  show (zoneM rs k).2.1 = m
  omega
end
end K37
end

section
set_option Elab.async false
set_option linter.all false
set_option maxRecDepth 100000
set_option maxHeartbeats 4000000
/-! the law's zones are the zones -/
namespace K37
open PySem L2 KZ
theorem getG_set (l : LZ) (k j : Option Int) (v : Option Int × Int) : getG (setG l k v) j = if j = k then some v else getG l j := by
  have mp : ∀ l : LZ, getG (l.map fun p => if p.1 = k then (p.1, v) else p) j = (getG l j).map fun x => if j = k then v else x := fun l => by
    induction l with
    | nil => rfl
    | cons p l ih =>
      by_cases h : p.1 = j
      · by_cases hk : p.1 = k
        · have hj : j = k := h ▸ hk
          simp [getG, h, hj]
        · have hj : ¬ j = k := h ▸ hk
          simp [getG, h, hj]
      · by_cases hk : p.1 = k
        · have e1 : getG ((p :: l).map fun p => if p.1 = k then (p.1, v) else p) j = getG (l.map fun p => if p.1 = k then (p.1, v) else p) j := by simp [getG, hk, (show ¬ k = j from hk ▸ h)]
          have e2 : getG (p :: l) j = getG l j := by simp [getG, h]
          rw [e1, e2, ih]
        · have e1 : getG ((p :: l).map fun p => if p.1 = k then (p.1, v) else p) j = getG (l.map fun p => if p.1 = k then (p.1, v) else p) j := by simp [getG, hk, h]
          have e2 : getG (p :: l) j = getG l j := by simp [getG, h]
          rw [e1, e2, ih]
  unfold setG
  by_cases a : (l.any fun p => decide (p.1 = k)) = true
  · rw [if_pos a, mp]
    by_cases hj : j = k
    · subst hj
      obtain ⟨p, mp', e⟩ := List.any_eq_true.mp a
      have : (getG l j).isSome = true := by
        unfold getG
        rw [Option.isSome_map, List.find?_isSome]
        exact ⟨p, mp', e⟩
      obtain ⟨z, hz⟩ := Option.isSome_iff_exists.mp this
      rw [hz, if_pos rfl]
      show some (if j = j then v else z) = _
      rw [if_pos rfl]
    · rw [if_neg hj]
      cases getG l j with
      | none => rfl
      | some z => show some (if j = k then v else z) = _; rw [if_neg hj]
  · rw [if_neg a]
    unfold getG
    rw [List.find?_append]
    by_cases hj : j = k
    · subst hj
      have : l.find? (fun p => decide (p.1 = j)) = none := by
        rw [List.find?_eq_none]
        intro p m c
        exact a (List.any_eq_true.mpr ⟨p, m, c⟩)
      rw [this, if_pos rfl]
      simp
    · rw [if_neg hj]
      cases h : l.find? (fun p => decide (p.1 = j)) with
      | some z => rfl
      | none =>
        have : ¬ k = j := fun z => hj z.symm
        simp [this]
def accG (k : Option Int) (o : Option (Option Int × Int)) (rows : List Row) : Option (Option Int × Int) := rows.foldl (fun o r => some (nextE (o.getD (startG k)).1 r.e, max2 (o.getD (startG k)).2 r.b)) o
theorem fold_G (rs : List Row) (k : Option Int) : ∀ (ms : List Nat) (l : LZ), getG (ms.foldl (stepG rs) l) k = accG k (getG l k) (mineR rs k ms)
  | [], l => rfl
  | m :: ms, l => by
    rw [List.foldl_cons, fold_G rs k ms, mineR_cons]
    unfold stepG
    cases hr : rs[m]? with
    | none => rfl
    | some r =>
      show accG k (getG (setG l (lotOf r m) _) k) (mineR rs k ms) = accG k (getG l k) ((if lotOf r m = k then [r] else []) ++ mineR rs k ms)
      rw [getG_set]
      by_cases h : lotOf r m = k
      · rw [if_pos h.symm, if_pos h, h]
        rfl
      · rw [if_neg (Ne.symm h), if_neg h, List.nil_append]
theorem acc_pair (k : Option Int) : ∀ (rows : List Row) (a : Option Int) (b : Int), accG k (some (a, b)) rows = some ((rows.map (·.e)).foldl nextE a, (rows.map (·.b)).foldl max2 b)
  | [], _, _ => rfl
  | r :: rows, a, b => acc_pair k rows (nextE a r.e) (max2 b r.b)
theorem acc_start (k : Option Int) {rows : List Row} (h : rows ≠ []) : accG k none rows = some ((rows.map (·.e)).foldl nextE (startG k).1, (rows.map (·.b)).foldl max2 (startG k).2) := by
  cases rows with
  | nil => exact absurd rfl h
  | cons r rows => exact acc_pair k rows _ _
theorem max_fold : ∀ (bs : List Int) (a : Int), ((bs.foldl max2 a) = a ∨ (bs.foldl max2 a) ∈ bs) ∧ a ≤ bs.foldl max2 a ∧ ∀ y ∈ bs, y ≤ bs.foldl max2 a
  | [], a => ⟨.inl rfl, Int.le_refl _, fun y m => (by cases m)⟩
  | b :: bs, a => by
    obtain ⟨h1, h2, h3⟩ := max_fold bs (max2 a b)
    have m1 : a ≤ max2 a b ∧ b ≤ max2 a b ∧ (max2 a b = a ∨ max2 a b = b) := by
      unfold max2
      split
      · exact ⟨by omega, Int.le_refl _, .inr rfl⟩
      · exact ⟨Int.le_refl _, by omega, .inl rfl⟩
    rw [List.foldl_cons]
    refine ⟨?_, Int.le_trans m1.1 h2, fun y my => ?_⟩
    · rcases h1 with h1 | h1
      · rw [h1]
        rcases m1.2.2 with e | e
        · exact .inl e
        · exact .inr (by rw [e]; exact List.mem_cons_self)
      · exact .inr (List.mem_cons_of_mem _ h1)
    · rcases List.mem_cons.mp my with rfl | my
      · exact Int.le_trans m1.2.1 h2
      · exact h3 y my
theorem min_low : ∀ (es : List (Option Int)), (∀ e ∈ es, ∀ y, e = some y → 0 ≤ y) → es.foldl nextE (some (-1)) = some (-1)
  | [], _ => rfl
  | none :: es, h => min_low es fun e m => h e (List.mem_cons_of_mem _ m)
  | some y :: es, h => by
    have := h _ List.mem_cons_self y rfl
    have e : nextE (some (-1)) (some y) = some (-1) := by
      show some (min2 (-1) y) = _
      unfold min2
      rw [if_neg (by omega)]
    rw [List.foldl_cons, e]
    exact min_low es fun e m => h e (List.mem_cons_of_mem _ m)
theorem min_fold : ∀ (es : List (Option Int)) (a : Int), ∃ m, es.foldl nextE (some a) = some m ∧ (m = a ∨ some m ∈ es) ∧ m ≤ a ∧ ∀ y, some y ∈ es → m ≤ y
  | [], a => ⟨a, rfl, .inl rfl, Int.le_refl _, fun y m => (by cases m)⟩
  | none :: es, a => by
    obtain ⟨m, h1, h2, h3, h4⟩ := min_fold es a
    exact ⟨m, h1, h2.imp id (List.mem_cons_of_mem _), h3, fun y my => h4 y ((List.mem_cons.mp my).resolve_left fun z => nomatch z)⟩
  | some b :: es, a => by
    obtain ⟨m, h1, h2, h3, h4⟩ := min_fold es (min2 a b)
    have m1 : min2 a b ≤ a ∧ min2 a b ≤ b ∧ (min2 a b = a ∨ min2 a b = b) := by
      unfold min2
      split
      · exact ⟨by omega, Int.le_refl _, .inr rfl⟩
      · exact ⟨Int.le_refl _, by omega, .inl rfl⟩
    refine ⟨m, h1, ?_, Int.le_trans h3 m1.1, fun y my => ?_⟩
    · rcases h2 with h2 | h2
      · rcases m1.2.2 with e | e
        · exact .inl (h2.trans e)
        · exact .inr (by rw [h2, e]; exact List.mem_cons_self)
      · exact .inr (List.mem_cons_of_mem _ h2)
    · rcases List.mem_cons.mp my with e | my
      · cases e
        exact Int.le_trans h3 m1.2.1
      · exact h4 y my
theorem min_none : ∀ (es : List (Option Int)), (∃ y, some y ∈ es) → ∃ m, es.foldl nextE none = some m ∧ some m ∈ es ∧ ∀ y, some y ∈ es → m ≤ y
  | [], ⟨_, h⟩ => nomatch h
  | none :: es, ⟨y, h⟩ => by
    obtain ⟨m, h1, h2, h3⟩ := min_none es ⟨y, (List.mem_cons.mp h).resolve_left fun z => nomatch z⟩
    exact ⟨m, h1, List.mem_cons_of_mem _ h2, fun y my => h3 y ((List.mem_cons.mp my).resolve_left fun z => nomatch z)⟩
  | some b :: es, _ => by
    obtain ⟨m, h1, h2, h3, h4⟩ := min_fold es b
    refine ⟨m, h1, ?_, fun y my => ?_⟩
    · rcases h2 with rfl | h2
      · exact List.mem_cons_self
      · exact List.mem_cons_of_mem _ h2
    · rcases List.mem_cons.mp my with e | my
      · cases e
        exact h3
      · exact h4 y my
section
variable {rs : List Row}
theorem mine_in {k : Option Int} {r : Row} : r ∈ mineR rs k (partsOf rs) ↔ ∃ i ∈ partsOf rs, rs[i]? = some r ∧ lotI rs i = k := by
  rw [mem_mine]
  constructor
  · rintro ⟨i, mi, er, ek⟩
    exact ⟨i, mi, er, by rw [lotI_at er, ek]⟩
  · rintro ⟨i, mi, er, ek⟩
    exact ⟨i, mi, er, by rw [← lotI_at er, ek]⟩
theorem lz_none {k : Option Int} (h : ¬ HasL rs k) : getG (lzOf rs) k = none := by
  unfold lzOf lzF
  rw [fold_G]
  have : mineR rs k (partsOf rs) = [] := by
    cases c : mineR rs k (partsOf rs) with
    | nil => rfl
    | cons r l =>
      have m : r ∈ mineR rs k (partsOf rs) := by rw [c]; exact List.mem_cons_self
      obtain ⟨i, mi, _, ek⟩ := mine_in.mp m
      exact absurd ⟨i, mi, ek⟩ h
  rw [this]
  rfl
theorem lz_some (ok : ∀ r ∈ rs, r.Ok) {k : Option Int} (h : HasL rs k) : getG (lzOf rs) k = some (some (Ez rs k), Bz rs k) := by
  have hm := h.m
  have ne : mineR rs k (partsOf rs) ≠ [] := by
    obtain ⟨r, mr⟩ := hasM_iff.mp hm
    intro z
    rw [z] at mr
    cases mr
  unfold lzOf lzF
  rw [fold_G, show getG [] k = none from rfl, acc_start k ne]
  have okm : ∀ r ∈ mineR rs k (partsOf rs), r.Ok := fun r m => by
    obtain ⟨i, _, er, _⟩ := mine_in.mp m
    exact ok r (List.mem_of_getElem? er)
  congr 2
  · by_cases nk : k = none
    · subst nk
      refine min_low _ fun e m y ey => ?_
      obtain ⟨r, mr, rfl⟩ := List.mem_map.mp m
      have := (okm r mr).eb y ey
      have := (okm r mr).b0
      omega
    · have e0 : (startG k).1 = none := if_neg nk
      rw [e0]
      obtain ⟨⟨j, mj, lj, ej⟩, up⟩ := E_spec hm nk
      obtain ⟨r, er⟩ := part_row mj
      obtain ⟨m, h1, h2, h3⟩ := min_none ((mineR rs k (partsOf rs)).map (·.e)) ⟨_, List.mem_map.mpr ⟨r, mine_in.mpr ⟨j, mj, er, lj⟩, by rw [← eI_at er, ej]⟩⟩
      rw [h1]
      congr 1
      obtain ⟨r2, mr2, e2⟩ := List.mem_map.mp h2
      obtain ⟨i, mi, er2, li⟩ := mine_in.mp mr2
      refine (E_is nk ⟨i, mi, li, by rw [eI_at er2, e2]⟩ fun i' mi' li' y ey => ?_).symm
      obtain ⟨r3, er3⟩ := part_row mi'
      rw [eI_at er3] at ey
      exact h3 y (List.mem_map.mpr ⟨r3, mine_in.mpr ⟨i', mi', er3, li'⟩, ey⟩)
  · obtain ⟨h1, h2, h3⟩ := max_fold ((mineR rs k (partsOf rs)).map (·.b)) (startG k).2
    have in_ : ((mineR rs k (partsOf rs)).map (·.b)).foldl max2 (startG k).2 ∈ (mineR rs k (partsOf rs)).map (·.b) := by
      rcases h1 with h1 | h1
      · obtain ⟨r, mr⟩ := hasM_iff.mp hm
        have := h3 r.b (List.mem_map.mpr ⟨r, mr, rfl⟩)
        have := (okm r mr).b0
        have e : (startG k).2 = -1 := rfl
        omega
      · exact h1
    obtain ⟨r2, mr2, e2⟩ := List.mem_map.mp in_
    obtain ⟨i, mi, er2, li⟩ := mine_in.mp mr2
    refine (B_is ⟨i, mi, li, by rw [bI_at er2, e2]⟩ fun i' mi' li' => ?_).symm
    obtain ⟨r3, er3⟩ := part_row mi'
    rw [bI_at er3]
    exact h3 _ (List.mem_map.mpr ⟨r3, mine_in.mpr ⟨i', mi', er3, li'⟩, rfl⟩)
end
end K37
end

section
set_option Elab.async false
set_option linter.all false
set_option maxRecDepth 100000
set_option maxHeartbeats 4000000
/-! the keys of the lots -/
namespace K37
open PySem L2 KZ
def keysL (l : LZ) : List (Option Int) := l.map (·.1)
theorem keys_setG (l : LZ) (k : Option Int) (v : Option Int × Int) : keysL (setG l k v) = if k ∈ keysL l then keysL l else keysL l ++ [k] := by
  unfold setG keysL
  by_cases h : k ∈ l.map (·.1)
  · have a : (l.any fun p => decide (p.1 = k)) = true := by
      obtain ⟨p, mp, e⟩ := List.mem_map.mp h
      exact List.any_eq_true.mpr ⟨p, mp, decide_eq_true e⟩
    rw [if_pos a, if_pos h, List.map_map]
    refine List.map_congr_left fun p _ => ?_
    show (if p.1 = k then (p.1, v) else p).1 = p.1
    split <;> rfl
  · have a : ¬ (l.any fun p => decide (p.1 = k)) = true := fun z => by
      obtain ⟨p, mp, e⟩ := List.any_eq_true.mp z
      exact h (List.mem_map.mpr ⟨p, mp, of_decide_eq_true e⟩)
    rw [if_neg a, if_neg h, List.map_append]
    rfl
theorem keys_nd (rs : List Row) : ∀ (ms : List Nat) (l : LZ), (keysL l).Nodup → (keysL (ms.foldl (stepG rs) l)).Nodup
  | [], _, h => h
  | m :: ms, l, h => by
    rw [List.foldl_cons]
    refine keys_nd rs ms _ ?_
    unfold stepG
    split
    · exact h
    · rw [keys_setG]
      split
      · exact h
      · rename_i nm
        rw [List.nodup_append]
        exact ⟨h, by simp, fun a ma b mb e => nm (by rw [← List.mem_singleton.mp mb, ← e]; exact ma)⟩
section
variable {rs : List Row}
theorem key_get {l : LZ} {k : Option Int} : k ∈ keysL l ↔ (getG l k).isSome = true := by
  unfold keysL getG
  rw [Option.isSome_map, List.find?_isSome, List.mem_map]
  constructor
  · rintro ⟨p, mp, e⟩
    exact ⟨p, mp, decide_eq_true e⟩
  · rintro ⟨p, mp, e⟩
    exact ⟨p, mp, of_decide_eq_true e⟩
theorem nd_len {α : Type} [DecidableEq α] : ∀ {f l : List α}, f.Nodup → (∀ x ∈ f, x ∈ l) → f.length ≤ l.length
  | [], _, _, _ => Nat.zero_le _
  | x :: f, l, nd, sub => by
    have mx := sub x List.mem_cons_self
    rw [List.nodup_cons] at nd
    have ih := nd_len (l := l.erase x) nd.2 fun y my => (List.mem_erase_of_ne (show y ≠ x from fun e => nd.1 (by rw [← e]; exact my))).mpr (sub y (List.mem_cons_of_mem _ my))
    rw [List.length_erase_of_mem mx] at ih
    have : 0 < l.length := List.length_pos_of_mem mx
    rw [List.length_cons]
    omega
theorem key_has (ok : ∀ r ∈ rs, r.Ok) {k : Option Int} : k ∈ keysL (lzOf rs) ↔ HasL rs k := by
  rw [key_get]
  constructor
  · intro h
    by_cases z : HasL rs k
    · exact z
    · rw [lz_none z] at h
      cases h
  · intro h
    rw [lz_some ok h]
    rfl
theorem lz_nd : (keysL (lzOf rs)).Nodup := keys_nd rs _ _ List.nodup_nil
end
end K37
end

section
set_option Elab.async false
set_option linter.all false
set_option maxRecDepth 100000
set_option maxHeartbeats 4000000
/-! tables of code objects; asks that are made -/
namespace K37
open PySem PySem.Spec PyProof.Rows L2 KZ
/-- as okG, the def's code object known -/
theorem okGc {P : Program} {w : World} {K : PySem.W.Frag} {mg : Str → Option Value} {base : Heap} {x qual : Str} {st : Stmt} {f c : Addr} {fd : FuncData} {N ps : List Str} {k : Nat} {sp : Sp} (F : Fun K x qual st f fd) (hc : fd.code = .ref c) (S : FnScope N ps (defScope st))
    (len : ∀ vs H Q E, sp vs H Q E → vs.length = ps.length)
    (hbody : ∀ (A : Around) (out : List Env) (s : Shared) (H : Hp) (vs : List V) (Q : VK) (E : XK), A.guards = some [] → Room k (A.deeper (envOfC qual (defScope st) s.heap.objs.size f (.ref c))) → sp vs H Q E →
      ∃ t, PSs (cxOf CX0 P w K mg base N qual (defScope st) f (.ref c) A out s H E).nox (defBody st) t ∧ t { nx := fun _ H' => Q .non H', rt := Q } (start N vs) H) : FnG P w K mg base CX0 (k + 1) f fd ps sp := by
  obtain ⟨oc, od, kV, doc, pm, an, cdv, ct, osl, rfl, lk, hcd⟩ := F.ex
  obtain rfl : cdv = .ref c := hc
  refine ⟨len, fun A out s H ar us vs Q E hgd hr e0 hb r hsp => LamX.run_ofS (N := N) lk hcd S hr e0 hb r (len _ _ _ _ hsp) fun hr' => ?_⟩
  obtain ⟨t, ht, q⟩ := hbody A out s H vs Q E hgd hr' hsp
  exact ⟨t, ht.nox, q⟩
theorem pen_ext {H H' : Hp} {p c : Addr} {cells : List Int} {n : Nat} (h : PenAt H p c cells n) (e : LamX.ExtN H H') : PenAt H' p c cells n := by
  obtain ⟨a, g, h1, h2, h3, h4⟩ := h.ex
  exact ⟨⟨a, g, e _ _ h1 (fun _ z => nomatch z), h2, h3, h4⟩, e _ _ h.cs (fun _ z => nomatch z), h.few, h.ne⟩
theorem tabs_same {T : List (Addr × Str)} {H H' : Hp} (h : LamX.Tabs T H) (s : Same H H') : LamX.Tabs T H' := h.ext s
theorem tabs_kept {T : List (Addr × Str)} {H H' : Hp} {p c : Addr} {cells : List Int} {n : Nat} (h : LamX.Tabs T H) (pen : PenAt H p c cells n) (k : Kept p H H') : LamX.Tabs T H' := fun t ht => by
  obtain ⟨ps, h1, h2, h3⟩ := h t ht
  obtain ⟨a, g, hp, _⟩ := pen.ex
  refine ⟨ps, k _ _ (fun z => by rw [z, hp] at h1; cases h1) h1, h2, fun pos cv hc => ?_⟩
  obtain ⟨c, e1, e2⟩ := h3 pos cv hc
  exact ⟨c, e1, k _ _ (fun z => by
    rw [z, hp] at e2
    have e3 := Option.some.inj e2
    have e4 : HO.lst _ = HO.ext _ := e3
    cases e4) e2⟩
theorem tabs_lst {T : List (Addr × Str)} {H : Hp} {l : Addr} {xs ys : List V} (h : LamX.Tabs T H) (hl : H l = some (.lst xs)) : LamX.Tabs T (upd H l (.lst ys)) := fun p hp => by
  obtain ⟨ps, h1, h2, h3⟩ := h p hp
  refine ⟨ps, by rw [upd_ne (fun z => by rw [z, hl] at h1; cases h1)]; exact h1, h2, fun pos cv hc => ?_⟩
  obtain ⟨c, e1, e2⟩ := h3 pos cv hc
  exact ⟨c, e1, by
    rw [upd_ne (fun z => by
      rw [z, hl] at e2
      have e3 := Option.some.inj e2
      have e4 : HO.lst xs = HO.ext _ := e3
      cases e4)]
    exact e2⟩
/-- a def with lambdas: its code object, its table -/
structure LamAt (T0 : List (Addr × Str)) (base : Heap) (mg : Str → Option Value) (cc Pt : Addr) (q : Str) : Prop where
  tb : LamX.TabB base mg cc Pt
  mem : (Pt, q ++ "<lambda>") ∈ T0
  uq : ∀ p ∈ T0, p.1 = Pt → p.2 = q ++ "<lambda>"
abbrev psI : List Str := ["self", "client", "word", "begun", "ended", "told"]
/-- Ask(..), as it is called -/
structure InitF (P : Program) (w : World) (K : PySem.W.Frag) (mg : Str → Option Value) (base : Heap) (C cB : Addr) : Prop where
  ex : ∃ f fd, Mk K C f ∧ FnOk P w K mg base (L2.CX P w) 8 f fd psI (spInit K C cB) ∧ Binds K fd psI [] ∧ (∃ ds, Vals [V.non] ds ∧ Binds K fd psI ds) ∧ (∃ ds, Vals [V.non, V.non] ds ∧ Binds K fd psI ds) ∧
    (∃ g, KBn K fd psI 1 ["told", "ended", "begun", "word", "client"] g fun vs zs => vs ++ zs.reverse) ∧ ∃ g, KBn K fd psI 4 ["ended", "told"] g fun vs zs => vs ++ zs
section
variable {K : PySem.W.Frag} {C cB : Addr}
theorem same2 {H : Hp} {x dx : Addr} {o u : HO} (hx : H x = none) (hdx : H dx = none) (ne : dx ≠ x) : Same H (upd (upd H dx o) x u) :=
  (same_new hdx).trans (same_new (by rw [upd_ne ne.symm]; exact hx))
theorem mk_go {H : Hp} {x dx : Addr} {vc vw vb ve vt : V} {dc dw db de dt : PyData} {Q : VK} {E : XK} (hx : H x = none) (hdx : H dx = none) (ne : dx ≠ x) (gc : Dv K H vc dc) (sz : ∀ y, dc = .str y → y.length ≤ 1000) (gw : Dv K H vw dw) (nw : nod dw = true) (sw : SeqAt.shaped dw = true)
    (gb : Dv K H vb db) (ge : Dv K H ve de) (gt : Dv K H vt dt) (good : ∀ r : Row, r.Ok → dc = .str r.c → dw = .str (wd r.g) → db = .int r.b → de = oD r.e → dt = oD r.t → ∀ H', Same H H' → AskAt C H' x r → Q .non H')
    (no : ∀ p, bad dc dw db de dt = some p → OutF cB [("part", .str p)] H E) : spInit K C cB [.ref x, vc, vw, vb, ve, vt] (upd (upd H dx (.own x)) x (.ins C dx [])) Q E := by
  have s2 : Same H (upd (upd H dx (.own x)) x (.ins C dx [])) := same2 hx hdx ne
  exact ⟨x, dx, vc, dc, vw, dw, vb, db, ve, de, vt, dt, rfl, upd_same, Dv.mono s2 gc, sz, Dv.mono s2 gw, nw, sw, Dv.mono s2 gb, Dv.mono s2 ge, Dv.mono s2 gt,
    fun r ok e1 e2 e3 e4 e5 H' keep ask => good r ok e1 e2 e3 e4 e5 H' (fun b o e => keep b o (ne_of_none e hx) (s2 b o e)) ask, fun p h => (no p h).at s2⟩
theorem row_of {r r' : Row} (e1 : PyData.str r.c = .str r'.c) (e2 : PyData.str (wd r.g) = .str (wd r'.g)) (e3 : PyData.int r.b = .int r'.b) (e4 : oD r.e = oD r'.e) (e5 : oD r.t = oD r'.t) : r' = r := by
  obtain ⟨c1, g1, b1, e1', t1⟩ := r
  obtain ⟨c2, g2, b2, e2', t2⟩ := r'
  have h1 : c1 = c2 := PyData.str.inj e1
  have h2 : g1 = g2 := by
    have h : wd g1 = wd g2 := PyData.str.inj e2
    clear e1 e2 e3 e4 e5
    cases g1 <;> cases g2
    · rfl
    · exact absurd h (show ¬ wd false = wd true by decide +kernel)
    · exact absurd h (show ¬ wd true = wd false by decide +kernel)
    · rfl
  have h3 : b1 = b2 := PyData.int.inj e3
  have h4 : e1' = e2' := by
    cases e1' <;> cases e2' <;> first | rfl | (cases e4; done) | (cases e4; rfl)
  have h5 : t1 = t2 := by
    cases t1 <;> cases t2 <;> first | rfl | (cases e5; done) | (cases e5; rfl)
  rw [h1, h2, h3, h4, h5]
/-- the ask of a row that is right -/
theorem mk_row {H : Hp} {x dx : Addr} {r : Row} {Q : VK} {E : XK} (ok : r.Ok) (cl : r.c.length ≤ 1000) (hx : H x = none) (hdx : H dx = none) (ne : dx ≠ x) (good : ∀ H', Same H H' → AskAt C H' x r → Q .non H') :
    spInit K C cB [.ref x, .str r.c, .str (wd r.g), .int r.b, oV r.e, oV r.t] (upd (upd H dx (.own x)) x (.ins C dx [])) Q E :=
  mk_go hx hdx ne (.str _) (fun y e => by cases e; exact cl) (.str _) rfl (by cases r.g <;> decide +kernel) (.int _) (oD_dv _) (oD_dv _) (fun r' ok' e1 e2 e3 e4 e5 H' s' ask => good H' s' (by rw [row_of e1 e2 e3 e4 e5] at ask; exact ask)) fun p h => by
    rw [bad_of ok] at h
    cases h
end
end K37
end

section
set_option Elab.async false
set_option linter.all false
set_option maxRecDepth 100000
set_option maxHeartbeats 4000000
/-! asks that an order leads -/
namespace K37
open PySem L2 KZ
/-- pl: where the ask of each spot stands -/
structure Led (rs : List Row) (pl : List Nat) : Prop where
  inj : pl.Nodup
  lt : ∀ k ∈ pl, k < rs.length
  all : ∀ k, k < rs.length → k ∈ pl
  len : pl.length = rs.length
  pts : ∃ pt : Nat → Int, (∀ s t, s ≤ t → pt s ≤ pt t) ∧ ∀ s k, pl[s]? = some k → ∃ r, rs[k]? = some r ∧ r.c = ("a" : Str) ∧ 0 ≤ r.b ∧ r.b ≤ pt s ∧ (∃ e, r.e = some e ∧ pt s < e) ∧ r.t = (if r.g = true then OM.lastP (isPutAt rs) none (pl.take s) else none)
section
variable {rs : List Row} {pl : List Nat}
theorem Led.at (L : Led rs pl) {k : Nat} (h : k < rs.length) : ∃ s : Nat, pl[s]? = some k := by
  obtain ⟨s, hs, e⟩ := List.mem_iff_getElem.mp (L.all k h)
  exact ⟨s, by rw [List.getElem?_eq_getElem hs, e]⟩
theorem Led.row (L : Led rs pl) {k : Nat} {r : Row} (h : rs[k]? = some r) : r.c = ("a" : Str) ∧ 0 ≤ r.b ∧ (∃ e, r.e = some e ∧ r.b < e) ∧ ∃ s : Nat, pl[s]? = some k ∧ r.t = (if r.g = true then OM.lastP (isPutAt rs) none (pl.take s) else none) := by
  obtain ⟨s, es⟩ := L.at (List.getElem?_eq_some_iff.mp h).1
  obtain ⟨pt, _, f⟩ := L.pts
  obtain ⟨r', er, c, b0, b1, ⟨e, e1, e2⟩, ht⟩ := f s k es
  rw [h] at er
  cases er
  exact ⟨c, b0, ⟨e, e1, by omega⟩, s, es, ht⟩
theorem Led.told (L : Led rs pl) {k : Nat} {r : Row} {x : Int} (h : rs[k]? = some r) (ht : r.t = some x) : r.g = true ∧ ∃ q : Nat, x = q ∧ q < rs.length ∧ isPutAt rs q = true := by
  obtain ⟨_, _, _, s, _, e⟩ := L.row h
  rw [ht] at e
  cases hg : r.g with
  | false => rw [hg, if_neg (by decide)] at e; cases e
  | true =>
    rw [hg, if_pos rfl] at e
    obtain ⟨a, q, b, e1, e2, _, e4⟩ := OM.lastP_some e.symm
    refine ⟨rfl, q, e4, L.lt q ?_, e2⟩
    refine List.mem_of_mem_take (i := s) ?_
    rw [e1]
    exact List.mem_append_right _ List.mem_cons_self
theorem Led.ok (L : Led rs pl) : ∀ r ∈ rs, r.Ok := fun r m => by
  obtain ⟨k, hk, e⟩ := List.mem_iff_getElem.mp m
  have er : rs[k]? = some r := by rw [List.getElem?_eq_getElem hk, e]
  obtain ⟨c, b0, ⟨x, e1, e2⟩, _⟩ := L.row er
  refine ⟨by rw [c]; decide +kernel, b0, fun y ey => ?_, fun y ey => ?_⟩
  · rw [e1] at ey
    cases ey
    exact e2
  · obtain ⟨g, q, eq, _, _⟩ := L.told er ey
    exact ⟨g, (by rw [e1]; exact fun z => (nomatch z)), by omega⟩
theorem Led.nb (L : Led rs pl) : firstBad rs = none := by
  unfold firstBad
  rw [List.find?_range_eq_none]
  intro n hn
  have en : rs[n]? = some rs[n] := List.getElem?_eq_getElem hn
  unfold badAt
  rw [en]
  show (!(match rs[n].t with
    | none => false
    | some j => decide ((rs.length : Int) ≤ j) || (match rs[j.toNat]? with
      | some r => r.g
      | none => true))) = true
  cases ht : rs[n].t with
  | none => rfl
  | some x =>
    obtain ⟨_, q, rfl, ql, qp⟩ := L.told en ht
    have eq : rs[((q : Nat) : Int).toNat]? = some rs[q] := by rw [Int.toNat_natCast]; exact List.getElem?_eq_getElem ql
    show (!(decide ((rs.length : Int) ≤ (q : Int)) || (match rs[((q : Nat) : Int).toNat]? with
      | some r => r.g
      | none => true))) = true
    rw [eq, decide_eq_false (by omega)]
    unfold isPutAt at qp
    rw [List.getElem?_eq_getElem ql] at qp
    have qp : (!rs[q].g) = true := qp
    show (!(false || rs[q].g)) = true
    rw [Bool.false_or]
    exact qp
theorem Led.parts (L : Led rs pl) {k : Nat} : k ∈ partsOf rs ↔ k < rs.length := by
  constructor
  · exact fun h => List.mem_range.mp (List.mem_filter.mp (show k ∈ (List.range rs.length).filter (isPart rs) from h)).1
  · intro h
    have er : rs[k]? = some rs[k] := List.getElem?_eq_getElem h
    obtain ⟨_, _, ⟨x, e1, _⟩, _⟩ := L.row er
    exact mem_parts.mpr ⟨_, er, by rw [e1]; rfl⟩
theorem Led.full (L : Led rs pl) : OM.Full (tmOf rs L.ok L.nb).toHst pl := by
  obtain ⟨pt, mono, f⟩ := L.pts
  refine ⟨⟨L.inj, fun i m => L.parts.mpr (L.lt i m), fun a x b e => ?_⟩, ?_⟩
  · have ex : pl[a.length]? = some x := by rw [e, List.getElem?_append_right (Nat.le_refl _), Nat.sub_self]; rfl
    have ta : pl.take a.length = a := by rw [e, List.take_left']; rfl
    obtain ⟨r, er, _, _, b1, ⟨y, e1, e2⟩, ht⟩ := f _ _ ex
    rw [ta] at ht
    refine ⟨fun i mi na ne => ?_, ?_⟩
    · have il := L.parts.mp mi
      have mi2 := L.all i il
      rw [e] at mi2
      rcases List.mem_append.mp mi2 with z | z
      · exact absurd z na
      · rcases List.mem_cons.mp z with z | z
        · exact absurd z ne
        · obtain ⟨t, ht2, et⟩ := List.mem_iff_getElem.mp z
          have ei : pl[a.length + (t + 1)]? = some i := by
            rw [e, List.getElem?_append_right (by omega), Nat.add_sub_cancel_left]
            show b[t]? = some i
            rw [List.getElem?_eq_getElem ht2, et]
          obtain ⟨s, es, _, _, _, ⟨y2, f1, f2⟩, _⟩ := f _ _ ei
          have := mono a.length (a.length + (t + 1)) (by omega)
          show aI rs i x = false
          unfold aI
          rw [eI_at es, f1, bI_at er]
          exact decide_eq_false (by omega)
    · show isPutAt rs x = true ∨ lotI rs x = OM.lastP (isPutAt rs) none a
      rw [put_at er, lotI_at er]
      unfold lotOf
      cases hg : r.g with
      | false => exact .inl rfl
      | true =>
        rw [hg, if_pos rfl] at ht
        exact .inr (by rw [if_pos rfl]; exact ht)
  · show pl.length = (partsOf rs).length
    have : partsOf rs = List.range rs.length := by
      unfold partsOf
      rw [List.filter_eq_self]
      intro i mi
      have := L.parts.mpr (List.mem_range.mp mi)
      unfold partsOf at this
      exact (List.mem_filter.mp this).2
    rw [this, List.length_range, L.len]
end
end K37
end

section
set_option Elab.async false
set_option linter.all false
set_option maxRecDepth 100000
set_option maxHeartbeats 4000000
/-! asks that are drawn in order, then arranged -/
namespace K37
open PySem L2 KZ
structure Plain (spread : Int) (pr : List Row) : Prop where
  at_ : ∀ (s : Nat) (r : Row), pr[s]? = some r → r.c = ("a" : Str) ∧ 0 ≤ r.b ∧ r.b ≤ 4 * spread + 10 * (s : Int) ∧ (∃ e, r.e = some e ∧ 4 * spread + 10 * (s : Int) < e) ∧ r.t = (if r.g = true then OM.lastP (isPutAt pr) none (List.range s) else none)
def lastOfP (pr : List Row) : Option Int := OM.lastP (isPutAt pr) none (List.range pr.length)
theorem lastP_congr {p q : Nat → Bool} : ∀ {o : List Nat} {l : Option Int}, (∀ i ∈ o, p i = q i) → OM.lastP p l o = OM.lastP q l o
  | [], _, _ => rfl
  | i :: o, l, h => by
    rw [OM.lastP_cons, OM.lastP_cons, h i List.mem_cons_self]
    exact lastP_congr fun j m => h j (List.mem_cons_of_mem _ m)
theorem put_snoc {pr : List Row} {r : Row} {i : Nat} (h : i < pr.length) : isPutAt (pr ++ [r]) i = isPutAt pr i := by
  unfold isPutAt
  rw [List.getElem?_append_left h]
theorem last_snoc (pr : List Row) (r : Row) : lastOfP (pr ++ [r]) = if r.g = false then some (pr.length : Int) else lastOfP pr := by
  unfold lastOfP
  rw [List.length_append, List.length_singleton, List.range_succ, OM.lastP_app, OM.lastP_cons, lastP_congr (q := isPutAt pr) fun i m => put_snoc (List.mem_range.mp m)]
  have : isPutAt (pr ++ [r]) pr.length = !r.g := by
    unfold isPutAt
    rw [List.getElem?_append_right (Nat.le_refl _), Nat.sub_self]
    rfl
  rw [this]
  show OM.lastP _ _ [] = _
  cases r.g <;> rfl
theorem Plain.snoc {spread : Int} {pr : List Row} {r : Row} (P : Plain spread pr) (hc : r.c = ("a" : Str)) (b0 : 0 ≤ r.b) (b1 : r.b ≤ 4 * spread + 10 * (pr.length : Int)) (he : ∃ e, r.e = some e ∧ 4 * spread + 10 * (pr.length : Int) < e) (ht : r.t = if r.g = true then lastOfP pr else none) : Plain spread (pr ++ [r]) := ⟨fun s q e => by
  by_cases h : s < pr.length
  · rw [List.getElem?_append_left h] at e
    obtain ⟨a1, a2, a3, a4, a5⟩ := P.at_ s q e
    refine ⟨a1, a2, a3, a4, ?_⟩
    rw [a5, lastP_congr fun i m => put_snoc (r := r) (Nat.lt_trans (List.mem_range.mp m) h)]
  · have hs : s = pr.length := by
      have := (List.getElem?_eq_some_iff.mp e).1
      rw [List.length_append, List.length_singleton] at this
      omega
    subst hs
    rw [List.getElem?_append_right (Nat.le_refl _), Nat.sub_self] at e
    cases e
    refine ⟨hc, b0, b1, he, ?_⟩
    rw [ht, lastP_congr fun i m => put_snoc (r := r) (List.mem_range.mp m)]
    rfl⟩
def r0 : Row := ⟨"a", false, 0, none, none⟩
def reT (pl : List Nat) (r : Row) : Row := ⟨r.c, r.g, r.b, r.e, r.t.map fun x => (((pl[x.toNat]?).getD 0 : Nat) : Int)⟩
def placesOf (sp : List Nat) (n : Nat) : List Nat := (List.range n).map fun s => sp.idxOf s
def mixR (pr : List Row) (sp pl : List Nat) : List Row := sp.map fun s => reT pl (pr.getD s r0)
theorem lastP_map {p q : Nat → Bool} {f : Nat → Nat} : ∀ {o : List Nat} {l : Option Int}, (∀ i ∈ o, p (f i) = q i) → OM.lastP p (l.map fun x => ((f x.toNat : Nat) : Int)) (o.map f) = (OM.lastP q l o).map fun x => ((f x.toNat : Nat) : Int)
  | [], _, _ => rfl
  | i :: o, l, h => by
    rw [List.map_cons, OM.lastP_cons, OM.lastP_cons, h i List.mem_cons_self]
    have := lastP_map (o := o) (l := if q i = true then some (i : Int) else l) fun j m => h j (List.mem_cons_of_mem _ m)
    rw [← this]
    congr 1
    cases q i with
    | true => rw [if_pos rfl, if_pos rfl]; rfl
    | false => rw [if_neg (by decide), if_neg (by decide)]
section
variable {pr : List Row} {sp : List Nat}
theorem sp_mem (pm : sp.Perm (List.range pr.length)) {s : Nat} : s ∈ sp ↔ s < pr.length := by rw [pm.mem_iff, List.mem_range]
theorem places_get {n s : Nat} (h : s < n) : (placesOf sp n)[s]? = some (sp.idxOf s) := by
  unfold placesOf
  rw [List.getElem?_map, List.getElem?_range h]
  rfl
theorem led_of {spread : Int} (P : Plain spread pr) (pm : sp.Perm (List.range pr.length)) : Led (mixR pr sp (placesOf sp pr.length)) (placesOf sp pr.length) := by
  have len : (mixR pr sp (placesOf sp pr.length)).length = pr.length := by
    unfold mixR
    rw [List.length_map, pm.length_eq, List.length_range]
  have lp : (placesOf sp pr.length).length = pr.length := by
    unfold placesOf
    rw [List.length_map, List.length_range]
  have lsp : sp.length = pr.length := by rw [pm.length_eq, List.length_range]
  have nd : sp.Nodup := pm.nodup_iff.mpr List.nodup_range
  have ix : ∀ {s : Nat}, s < pr.length → sp.idxOf s < sp.length := fun h => List.idxOf_lt_length_of_mem ((sp_mem pm).mpr h)
  have gi : ∀ {s : Nat} (h : s < pr.length), sp[sp.idxOf s]? = some s := fun h => by
    rw [List.getElem?_eq_getElem (ix h), List.getElem_idxOf]
  have inj : ∀ {s t : Nat}, s < pr.length → t < pr.length → sp.idxOf s = sp.idxOf t → s = t := fun hs ht e => by
    have a := gi hs
    rw [e, gi ht] at a
    exact (Option.some.inj a).symm
  have row : ∀ {s : Nat} (h : s < pr.length), (mixR pr sp (placesOf sp pr.length))[sp.idxOf s]? = some (reT (placesOf sp pr.length) pr[s]) := fun {s} h => by
    unfold mixR
    rw [List.getElem?_map, gi h]
    show some (reT _ (pr.getD s r0)) = _
    rw [List.getD_eq_getElem?_getD, List.getElem?_eq_getElem h]
    rfl
  have putE : ∀ {s : Nat}, s < pr.length → isPutAt (mixR pr sp (placesOf sp pr.length)) (sp.idxOf s) = isPutAt pr s := fun {s} h => by
    rw [put_at (row h), put_at (List.getElem?_eq_getElem h)]
    rfl
  refine ⟨?_, ?_, ?_, by rw [lp, len], fun s => 4 * spread + 10 * (s : Int), fun s t h => by
    show 4 * spread + 10 * (s : Int) ≤ 4 * spread + 10 * (t : Int)
    omega, ?_⟩
  · unfold placesOf
    rw [List.Nodup, List.pairwise_map]
    refine List.Pairwise.imp_of_mem (R := fun a b => a ≠ b) (fun {a b} ma mb ne e => ?_) List.nodup_range
    exact ne (inj (List.mem_range.mp ma) (List.mem_range.mp mb) e)
  · intro k m
    obtain ⟨s, ms, rfl⟩ := List.mem_map.mp m
    rw [len, ← lsp]
    exact ix (List.mem_range.mp ms)
  · intro k hk
    rw [len, ← lsp] at hk
    have ms : sp[k] < pr.length := (sp_mem pm).mp (List.getElem_mem hk)
    refine List.mem_map.mpr ⟨sp[k], List.mem_range.mpr ms, ?_⟩
    have h1 := ix ms
    have h2 : sp[sp.idxOf sp[k]] = sp[k] := List.getElem_idxOf h1
    exact (List.getElem_inj nd).mp h2
  · intro s k e
    have hs : s < pr.length := by
      have := (List.getElem?_eq_some_iff.mp e).1
      rw [lp] at this
      exact this
    rw [places_get hs] at e
    cases e
    obtain ⟨a1, a2, a3, a4, a5⟩ := P.at_ s pr[s] (List.getElem?_eq_getElem hs)
    refine ⟨_, row hs, a1, a2, a3, a4, ?_⟩
    show (pr[s].t.map fun x => (((((placesOf sp pr.length)[x.toNat]?).getD 0 : Nat)) : Int)) = if pr[s].g = true then _ else none
    rw [a5]
    cases hg : pr[s].g with
    | false => rw [if_neg (by decide), if_neg (by decide)]; rfl
    | true =>
      rw [if_pos rfl, if_pos rfl]
      have tk : (placesOf sp pr.length).take s = (List.range s).map fun s => sp.idxOf s := by
        unfold placesOf
        rw [← List.map_take, List.take_range, Nat.min_eq_left (Nat.le_of_lt hs)]
      rw [tk]
      have := lastP_map (p := isPutAt (mixR pr sp (placesOf sp pr.length))) (q := isPutAt pr) (f := fun s => sp.idxOf s) (o := List.range s) (l := none) fun i m => putE (Nat.lt_trans (List.mem_range.mp m) hs)
      rw [show (Option.map (fun x => ((sp.idxOf (Int.toNat x) : Nat) : Int)) none) = none from rfl] at this
      rw [this]
      cases hl : OM.lastP (isPutAt pr) none (List.range s) with
      | none => rfl
      | some x =>
        obtain ⟨a, q, b, e1, e2, _, rfl⟩ := OM.lastP_some hl
        have hq : q < pr.length := by
          have : q ∈ List.range s := by rw [e1]; exact List.mem_append_right _ List.mem_cons_self
          exact Nat.lt_trans (List.mem_range.mp this) hs
        show some ((((placesOf sp pr.length)[((q : Nat) : Int).toNat]?).getD 0 : Nat) : Int) = some ((sp.idxOf (((q : Nat) : Int).toNat) : Nat) : Int)
        rw [Int.toNat_natCast, places_get hq]
        rfl
end
end K37
end

section
set_option Elab.async false
set_option linter.all false
set_option maxRecDepth 100000
set_option maxHeartbeats 4000000
/-! helpers of what draws -/
namespace K37
open PySem L2 KZ
theorem PenAt.more {H : Hp} {p c : Addr} {cells : List Int} {n m : Nat} (h : PenAt H p c cells n) (hn : n ≤ m) : PenAt H p c cells m := h.mono (Same.refl H) hn
theorem PenAt.nn {H : Hp} {p c : Addr} {cells : List Int} {n : Nat} (h : PenAt H p c cells n) {L : Addr} (e : H L = none) : L ≠ p ∧ L ≠ c := by
  obtain ⟨a, g, hp, _⟩ := h.ex
  exact ⟨(ne_of_none hp e).symm, (ne_of_none h.cs e).symm⟩
theorem PenAt.upd {H : Hp} {p c : Addr} {cells : List Int} {n : Nat} (h : PenAt H p c cells n) {L : Addr} {o : HO} (e : L ≠ p ∧ L ≠ c) : PenAt (upd H L o) p c cells n := by
  obtain ⟨a, g, h1, h2⟩ := h.ex
  exact ⟨⟨a, g, by rw [upd_ne e.1.symm]; exact h1, h2⟩, by rw [upd_ne e.2.symm]; exact h.cs, h.few, h.ne⟩
theorem Kept.upd {p : Addr} {H H1 : Hp} (k : Kept p H H1) {L : Addr} {o : HO} (e : H L = none) : Kept p H (upd H1 L o) := fun b u hb z => by
  rw [upd_ne (ne_of_none z e)]
  exact k b u hb z
theorem Kept.nn {p : Addr} {H H1 : Hp} (k : Kept p H H1) {L : Addr} (e : H1 L = none) (hp : L ≠ p) : H L = none := by
  cases h : H L with
  | none => rfl
  | some o =>
    have := k L o hp h
    rw [e] at this
    cases this
theorem asg_of {te : TE} {g : TG} {rest : TS} {D : Ends} {σ : L2.St} {H : Hp} (good : V → Hp → Prop) (h : ∀ Q : VK, (∀ v H', good v H' → Q v H') → te σ H Q) (go : ∀ v H', good v H' → g v σ H' (rest D)) : tSeq (tAsg te g) rest D σ H := h _ go
theorem nx_go {i : Nat} {v : V} {σ : L2.St} {H : Hp} {k : L2.St → Hp → Prop} (h : k (σ.set i (some v)) H) : gName i v σ H k := h
theorem seq_c {v : V} {i : Nat} {rest : TS} {D : Ends} {σ : L2.St} {H : Hp} (go : rest D (σ.set i (some v)) H) : tSeq (tAsg (tC v) (gName i)) rest D σ H := go
theorem if_told {c : TT} {te : TE} {i : Nat} {rest : TS} {D : Ends} {σ : L2.St} {H : Hp} (P1 : Bool → Hp → Prop) (good : Option Int → Hp → Prop) (h0 : σ = σ.set i (some .non)) (hc : ∀ Q : Bool → Hp → Prop, (∀ b H', P1 b H' → Q b H') → c σ H Q)
    (ht : ∀ H', P1 true H' → ∀ Q : VK, (∀ t H2, good t H2 → Q (oV t) H2) → te σ H' Q) (hf : ∀ H', P1 false H' → good none H') (go : ∀ t H', good t H' → rest D (σ.set i (some (oV t))) H') : tSeq (tIfS c (tAsg te (gName i)) tNext) rest D σ H := by
  refine hc _ fun b H' p => ?_
  cases b with
  | true => exact iteT (ht H' p _ fun t H2 g => go t H2 g)
  | false =>
    refine iteF ?_
    have z := go none H' (hf H' p)
    have e : σ.set i (some (oV none)) = σ := h0.symm
    rw [e] at z
    exact z
def KN (p : Addr) (H H' : Hp) : Prop := ∀ b o, b ≠ p → H b = some o → (∀ ps, o ≠ .tbl ps) → H' b = some o
theorem KN.refl (p : Addr) (H : Hp) : KN p H H := fun _ _ _ h _ => h
theorem KN.trans {p : Addr} {H H1 H2 : Hp} (a : KN p H H1) (b : KN p H1 H2) : KN p H H2 := fun x o hx e n => b x o hx (a x o hx e n) n
theorem KN.same {p : Addr} {H H1 : Hp} (s : Same H H1) : KN p H H1 := fun x o _ e _ => s x o e
theorem KN.kept {p : Addr} {H H1 : Hp} (s : Kept p H H1) : KN p H H1 := fun x o hx e _ => s x o hx e
theorem KN.ext {p : Addr} {H H1 : Hp} (s : LamX.ExtN H H1) : KN p H H1 := fun x o _ e n => s x o e n
end K37
end

section
set_option Elab.async false
set_option linter.all false
set_option maxRecDepth 100000
set_option maxHeartbeats 4000000
/-! drawn asks that an order leads -/
namespace K37
open PySem L2 KZ
abbrev sLed : Stmt := top 49
def spLed : Sp := fun vs H Q _ => ∃ (p c : Addr) (cells : List Int) (n m : Nat) (sd : Int), vs = [.ref p, .int m, .int sd] ∧ PenAt H p c cells n ∧ n ≤ 5000 ∧ 1 ≤ m ∧ m ≤ 1000 ∧ 1 ≤ sd ∧ sd ≤ 1000 ∧
  ∀ t a o rs pl H', a ≠ p → PenAt H' p c cells (n + 5 * m) → Kept p H H' → H' t = some (.tup [.ref a, .ref o]) → RowsAt H' a rs → H' o = some (.tup (nats pl)) → Led rs pl → rs.length = m → Q (.ref t) H'
abbrev Rws (H : Hp) (ps : List Addr) (rs : List Row) : Prop := Paired (RowAt H) ps rs
theorem Rws.keep {H H' : Hp} {ps : List Addr} {rs : List Row} (h : Rws H ps rs) (k : ∀ q x, H q = some (.tup x) → H' q = some (.tup x)) : Rws H' ps rs := Paired.mapP h fun q r e => k q _ e
theorem map_erase {α β : Type} (f : α → β) : ∀ (l : List α) (i : Nat), (l.map f).eraseIdx i = (l.eraseIdx i).map f
  | [], _ => rfl
  | _ :: _, 0 => rfl
  | x :: l, i + 1 => by
    show f x :: (l.map f).eraseIdx i = f x :: (l.eraseIdx i).map f
    rw [map_erase f l i]
theorem erase_perm {α : Type} : ∀ {l : List α} {i : Nat} (h : i < l.length), (l[i] :: l.eraseIdx i).Perm l
  | x :: l, 0, _ => List.Perm.refl _
  | x :: l, i + 1, h => (List.Perm.swap x (l[i]'(Nat.lt_of_succ_lt_succ h)) (l.eraseIdx i)).trans (List.Perm.cons x (erase_perm (l := l) (i := i) (Nat.lt_of_succ_lt_succ h)))
theorem rg_nats (n : Nat) : rgV 0 (n : Int) = nats (List.range n) := by
  unfold nats rgV
  rw [show ((n : Int) - 0).toNat = n by omega]
  refine List.map_congr_left fun i _ => ?_
  show V.int (0 + (i : Int)) = V.int (i : Int)
  rw [Int.zero_add]
section
variable {P : Program} {w : World} {K : PySem.W.Frag} {mg : Str → Option Value} {base : Heap}
theorem scLed : FnScope ["well", "many", "spread", "plain", "last", "spot", "point", "begun", "ended", "word", "spots", "left", "turn", "places", "rows", "row"] ["well", "many", "spread"] (defScope sLed) := ⟨rfl, rfl, rfl, by decide +kernel, rfl, by decide +kernel, by decide +kernel⟩
theorem ok_led {f : Addr} {fd : FuncData} (F : Fun K "_law_led" "_law_led" sLed f fd) (T : B1 mg) (draw : Cal P w K mg base "_law_draw" 1 ["well", "many"] spDraw) (one : Cal P w K mg base "_law_one" 2 ["well", "some"] spOne) : FnOk P w K mg base CX0 3 f fd ["well", "many", "spread"] spLed := by
  obtain ⟨fD, dD, gD, GD, kD, bD⟩ := draw.ex
  obtain ⟨fO, dO, gO_, GO, kO, bO⟩ := one.ex
  refine F.ok scLed (fun vs H Q E h => ?_) (fun cdv A' outer s H vs Q E hr h => ?_)
  · obtain ⟨p, c, cells, n, m, sd, rfl, _⟩ := h
    rfl
  · obtain ⟨p, c, cells, n, m, sd, rfl, pen, hn, m1, m2, d1, d2, q⟩ := h
    have hr2 : Room 2 _ := hr
    have hr1 : Room 1 _ := hr.mono (by decide)
    refine ⟨_, (pss_cons (ps_asg (pe_tup (pa_cons (pe_lst pa_nil) (pa_cons pe_non pa_nil))) (pg_tup rfl (pgs_cons (pg_name (i := 3) scLed.nd rfl (Or.inr rfl)) (pgs_cons (pg_name (i := 4) scLed.nd rfl (Or.inl rfl)) pgs_nil))))
(pss_cons (ps_for PassesOwn.never rfl (pi_range1 (by rfl) T.range (pa_cons (pv 1) pa_nil)) (pg_name (i := 5) scLed.nd rfl (Or.inl rfl))
(pss_cons (ps_set (i := 6) scLed.nd rfl (Or.inl rfl) (pe_op op_add (pe_op op_mul pe_int (pv 2)) (pe_op op_mul pe_int (pv 5))))
(pss_cons (ps_par (i := 7) (j := 8) (by rfl) scLed.nd rfl rfl (by decide) rfl rfl (pa_cons (pe_op op_sub (pv 6) (pe_call GD hr1 (by rfl) gD kD bD .nil pass0 (pa_cons (pv 0) (pa_cons (pe_op op_mul pe_int (pv 2)) pa_nil)))) (pa_cons (pe_op op_add (pe_op op_add (pv 6) pe_int) (pe_call GD hr1 (by rfl) gD kD bD .nil pass0 (pa_cons (pv 0) (pa_cons (pe_op op_mul pe_int (pv 2)) pa_nil)))) pa_nil)) (by rfl))
(pss_cons (ps_set (i := 9) scLed.nd rfl (Or.inl rfl) (pe_ifExp (PW.pt (pw_and (pt_cmpR op_isN (pv 4) pe_non (nomark _)) (pw_and1 (pt_cmpR op_gt (pe_call GD hr1 (by rfl) gD kD bD .nil pass0 (pa_cons (pv 0) (pa_cons pe_int pa_nil))) pe_int (nomark _))))) pe_str (pe_call GO hr2 (by rfl) gO_ kO bO .nil pass0 (pa_cons (pv 0) (pa_cons (pe_lst (pa_cons pe_str (pa_cons pe_str (pa_cons pe_str pa_nil)))) pa_nil)))))
(pss_cons (ps_expr (pe_bm PySem.F.plainAttrs_list PySem.F.slot_list_append PySem.F.type_list_append mt_append (pv 3) (pa_cons (pe_tup (pa_cons pe_str (pa_cons (pv 9) (pa_cons (pv 7) (pa_cons (pv 8) (pa_cons (pe_ifExp (pt_cmpR op_eq (pv 9) pe_str (nomark _)) pe_non (pv 4)) pa_nil)))))) pa_nil)))
(pss_one (ps_set (i := 4) scLed.nd rfl (Or.inl rfl) (pe_ifExp (pt_cmpR op_eq (pv 9) pe_str (nomark _)) (pv 5) (pv 4)))))))))
(pss_cons (ps_asg (pe_tup (pa_cons (pe_lst pa_nil) (pa_cons (pe_listRg rfl (by rfl) T.list (prg_1 (by rfl) T.range (pv 1))) pa_nil))) (pg_tup rfl (pgs_cons (pg_name (i := 10) scLed.nd rfl (Or.inr rfl)) (pgs_cons (pg_name (i := 11) scLed.nd rfl (Or.inl rfl)) pgs_nil))))
(pss_cons (ps_for PassesOwn.never rfl (pi_range1 (by rfl) T.range (pa_cons (pv 1) pa_nil)) (pg_name (i := 12) scLed.nd rfl (Or.inl rfl))
(pss_one (ps_expr (pe_bm PySem.F.plainAttrs_list PySem.F.slot_list_append PySem.F.type_list_append mt_append (pv 10) (pa_cons (pe_bm PySem.F.plainAttrs_list PySem.F.slot_list_pop PySem.F.type_list_pop mt_popAt (pv 11) (pa_cons (pe_call GD hr1 (by rfl) gD kD bD .nil pass0 (pa_cons (pv 0) (pa_cons (pe_callB call_len (by rfl) T.len PySem.boot_len (pa_cons (pv 11) pa_nil)) pa_nil))) pa_nil)) pa_nil)))))
(pss_cons (ps_set (i := 13) scLed.nd rfl (Or.inr rfl) (pe_lc (own := [("spot", 5)]) (g := gName 5) (tt := tYes) (by rfl) scLed.nd (pi_range1 (by rfl) T.range (pa_cons (pv 1) pa_nil)) (blkOk_by (own := [("spot", 5)]) (N := ["well", "many", "spread", "plain", "last", "spot", "point", "begun", "ended", "word", "spots", "left", "turn", "places", "rows", "row"]) (sc := defScope sLed) (by decide +kernel)) (fun _ _ _ _ _ => pg_name (i := 5) scLed.nd rfl (Or.inl rfl)) (fun _ _ _ _ _ => pts_nil) (fun _ _ _ _ _ => pe_bmK K PySem.F.plainAttrs_list PySem.F.slot_list_index PySem.F.type_list_index (mt_indexK K) (pv 10) (pa_cons (pv 5) pa_nil))))
(pss_cons (ps_setLc (i := 14) (own := [("spot", 5)]) (g := gName 5) (tt := tYes) (by rfl) scLed.nd rfl rfl (sw_true rfl rfl rfl (by decide +kernel)) (pi_list (pv 10)) (blkOk_by (own := [("spot", 5)]) (N := ["well", "many", "spread", "plain", "last", "spot", "point", "begun", "ended", "word", "spots", "left", "turn", "places", "rows", "row"]) (sc := defScope sLed) (by decide +kernel)) (fun _ _ _ _ _ => pg_name (i := 5) scLed.nd rfl (Or.inl rfl)) (fun _ _ _ _ _ => pts_nil) (fun _ _ _ _ _ => pe_ix (ix_seqK K) (pv 3) (pv 5) (fun _ _ => rfl)))
(pss_cons (ps_setLc (i := 14) (own := [("row", 15)]) (g := gName 15) (tt := tYes) (by rfl) scLed.nd rfl rfl (sw_true rfl rfl rfl (by decide +kernel)) (pi_list (pv 14)) (blkOk_by (own := [("row", 15)]) (N := ["well", "many", "spread", "plain", "last", "spot", "point", "begun", "ended", "word", "spots", "left", "turn", "places", "rows", "row"]) (sc := defScope sLed) (by decide +kernel)) (fun _ _ _ _ _ => pg_name (i := 15) scLed.nd rfl (Or.inl rfl)) (fun _ _ _ _ _ => pts_nil) (fun _ _ _ _ _ => pe_op (op_catAK K) (pe_slice (sl_tupK K) (pv 15) po_none (po_some pe_int)) (pe_tup (pa_cons (pe_ifExp (pt_cmpR op_isN (pe_ix (ix_seqK K) (pv 15) pe_int (fun _ _ => rfl)) pe_non (nomark _)) pe_non (pe_ix (ix_seqK K) (pv 13) (pe_ix (ix_seqK K) (pv 15) pe_int (fun _ _ => rfl)) (fun _ _ => rfl))) pa_nil))))
(pss_one (ps_ret (pe_tup (pa_cons (pv 14) (pa_cons (pe_callTy call_tuple_of (by rfl) T.tuple (by decide +kernel) (pa_cons (pv 13) pa_nil)) pa_nil)))))))))))), ?_⟩
    refine ⟨Nat.zero_le _, fun PL hPL => ⟨(by show 2 ≤ sizeLine; decide), fun t0 ht0 => ⟨t0, _, rfl, SqT.of upd_same, rfl, _, _, rfl, _, _, rfl, rfl, ?_⟩⟩⟩
    have s1 : Same H (upd (upd H PL (.lst [])) t0 (.tup [.ref PL, .non])) := (same_new hPL).trans (same_new ht0)
    have fPL : upd (upd H PL (.lst [])) t0 (.tup [.ref PL, .non]) PL = some (.lst []) := same_new ht0 _ _ upd_same
    have pen1 := pen.mono s1 (Nat.le_refl _)
    have nPL := (pen.nn hPL).1
    have nPLc := (pen.nn hPL).2
    generalize upd (upd H PL (.lst [])) t0 (.tup [.ref PL, .non]) = H1 at s1 fPL pen1 ⊢
    refine ⟨.int m, rfl, m, rfl, by omega, by omega, for_range (n := m) (fun i σ H' => ∃ ps pr x5 x6 x7 x8 x9, σ = [some (.ref p), some (.int m), some (.int sd), some (.ref PL), some (oV (lastOfP pr)), x5, x6, x7, x8, x9, none, none, none, none, none, none] ∧ H' PL = some (.lst (ps.map V.ref)) ∧ Rws H' ps pr ∧ pr.length = i ∧ Plain sd pr ∧ PenAt H' p c cells (n + 4 * i) ∧ Kept p H H')
      ⟨[], [], _, _, _, _, _, rfl, fPL, .nil, rfl, ⟨fun s r e => by cases e⟩, pen1, Kept.of s1⟩ ?_ ?_⟩
    · rintro i σ H2 hi ⟨ps, pr, x5, x6, x7, x8, x9, rfl, fPL, rw_, hl, pn, pen2, kp⟩
      show gName 5 (V.int (0 + (i : Int))) _ _ _
      rw [Int.zero_add]
      refine nx_go ?_
      have i1000 : i < 1000 := by omega
      have cm : ∀ a b : Int, 0 ≤ a → a ≤ 100 → CMul a b := fun a b h1 h2 => .inl ⟨by omega, by omega⟩
      refine ⟨.int sd, rfl, 4, sd, rfl, rfl, cm _ _ (by decide) (by decide), .int i, rfl, 10, (i : Int), rfl, rfl, cm _ _ (by decide) (by decide), _, _, rfl, rfl, nx_go ?_⟩
      refine ⟨_, rfl, .ref p, rfl, .int sd, rfl, 2, sd, rfl, rfl, cm _ _ (by decide) (by decide), p, c, cells, _, 2 * sd, rfl, pen2, by omega, by omega, by omega, fun u1 H3 u10 u11 pen3 kp3 => ?_⟩
      refine ⟨_, _, rfl, rfl, _, rfl, _, _, rfl, rfl, .ref p, rfl, .int sd, rfl, 2, sd, rfl, rfl, cm _ _ (by decide) (by decide), p, c, cells, _, 2 * sd, rfl, pen3, by omega, by omega, by omega, fun u2 H4 u20 u21 pen4 kp4 => ?_⟩
      refine ⟨_, _, rfl, rfl, _, _, rfl, ?_⟩
      have kp24 := kp3.trans kp4
      clear kp3 kp4 pen3
      have ipt : (4 * sd + 10 * (i : Int)) = 4 * sd + 10 * (i : Int) := rfl
      generalize hb : 4 * sd + 10 * (i : Int) - u1 = b
      generalize he : 4 * sd + 10 * (i : Int) + 1 + u2 = e
      dsimp only
      refine asg_of (fun v H' => ∃ g, v = .str (wd g) ∧ PenAt H' p c cells (n + 4 * i + 4) ∧ Kept p H4 H') (fun Qv z => ?_) (fun v H5 ⟨g, ev, pen5, kp5⟩ => ?_)
      · have drawn : ∀ H5 k, PenAt H5 p c cells k → k ≤ n + 4 * i + 3 → Kept p H4 H5 → (tCall spOne [] E0 (tCons (tVar 0) (tCons (tLst (tCons (tC (V.str "get")) (tCons (tC (V.str "get")) (tCons (tC (V.str "put")) tNil)))) tNil)))
            (((([some (V.ref p), some (V.int m), some (V.int sd), some (V.ref PL), some (oV (lastOfP pr)), x5, x6, x7, x8, x9, none, none, none, none, none, none].set 5 (some (V.int i))).set 6 (some (V.int (4 * sd + 10 * (i : Int))))).set 7 (some (V.int (4 * sd + 10 * (i : Int) - u1)))).set 8 (some (V.int (4 * sd + 10 * (i : Int) + 1 + u2)))) H5 Qv := fun H5 k pk lk kk => by
          refine ⟨.ref p, rfl, by show 3 ≤ sizeLine; decide, fun L hL => ?_⟩
          have pL := pk.mono (same_new (o := .lst [V.str "get", V.str "get", V.str "put"]) hL) (Nat.le_refl _)
          refine ⟨p, c, L, cells, _, _, rfl, pL, by omega, upd_same, (pk.nn hL).1, by decide, by decide, fun j x H7 ex pn7 kp7 => ?_⟩
          have k7 : Kept p H4 H7 := kk.trans ((Kept.of (same_new hL)).trans kp7)
          rcases j with _ | _ | _ | j
          · cases ex
            exact z _ _ ⟨true, rfl, pn7.more (by omega), k7⟩
          · cases ex
            exact z _ _ ⟨true, rfl, pn7.more (by omega), k7⟩
          · cases ex
            exact z _ _ ⟨false, rfl, pn7.more (by omega), k7⟩
          · cases ex
        refine ⟨oV (lastOfP pr), rfl, rfl, (lastOfP pr).isNone, (by cases lastOfP pr <;> rfl), ?_⟩
        cases (lastOfP pr).isNone with
        | false => exact iteF' (iteF' (drawn H4 _ pen4 (by omega) (fun _ _ _ e => e)))
        | true =>
          refine iteT' ⟨.ref p, rfl, p, c, cells, _, 3, rfl, pen4, by omega, by decide, by decide, fun d H5 d0 d1 pen5 kp5 => ⟨d, 0, rfl, rfl, _, rfl, ?_⟩⟩
          by_cases hd : 0 < d
          · rw [decide_eq_true hd]
            exact iteT' (z _ _ ⟨false, rfl, pen5.more (by omega), kp5⟩)
          · rw [decide_eq_false hd]
            exact iteF' (drawn H5 _ pen5 (by omega) kp5)
      · subst ev
        refine nx_go ?_
        have kp25 := kp24.trans kp5
        have f5 := kp25 _ _ nPL fPL
        have r5 : Rws H5 ps pr := Paired.mapP rw_ fun q r e => kp25 _ _ (fun z => by
          obtain ⟨a1, g1, h1, _⟩ := pen2.ex
          unfold RowAt at e
          rw [z, h1] at e
          cases e) e
        have kp5H := kp.trans kp25
        clear kp24 kp25 kp5 kp pen4 pen2 rw_ fPL
        have fin : ∀ (r : Row) (T0 : Addr), H5 T0 = none → r.c = ("a" : Str) → r.g = g → r.b = 4 * sd + 10 * (i : Int) - u1 → r.e = some (4 * sd + 10 * (i : Int) + 1 + u2) → (r.t = if r.g = true then lastOfP pr else none) → ∀ (x : V), x = oV (lastOfP (pr ++ [r])) →
            ∃ ps' pr' x5 x6 x7 x8 x9, [some (V.ref p), some (V.int m), some (V.int sd), some (V.ref PL), some x, some (V.int i), some (V.int (4 * sd + 10 * (i : Int))), some (V.int (4 * sd + 10 * (i : Int) - u1)), some (V.int (4 * sd + 10 * (i : Int) + 1 + u2)), some (V.str (wd g)), none, none, none, none, none, none] = [some (.ref p), some (.int m), some (.int sd), some (.ref PL), some (oV (lastOfP pr')), x5, x6, x7, x8, x9, none, none, none, none, none, none] ∧
              (upd (upd H5 T0 (.tup (rowV r))) PL (.lst (ps.map V.ref ++ [.ref T0]))) PL = some (.lst (ps'.map V.ref)) ∧ Rws (upd (upd H5 T0 (.tup (rowV r))) PL (.lst (ps.map V.ref ++ [.ref T0]))) ps' pr' ∧ pr'.length = i + 1 ∧ Plain sd pr' ∧ PenAt (upd (upd H5 T0 (.tup (rowV r))) PL (.lst (ps.map V.ref ++ [.ref T0]))) p c cells (n + 4 * (i + 1)) ∧ Kept p H (upd (upd H5 T0 (.tup (rowV r))) PL (.lst (ps.map V.ref ++ [.ref T0]))) := fun r T0 hT0 hc hg hb he ht x hx => by
          subst hx
          have nTP : T0 ≠ PL := fun z => by rw [z, f5] at hT0; cases hT0
          have keepT : ∀ q x, H5 q = some (.tup x) → upd (upd H5 T0 (.tup (rowV r))) PL (.lst (ps.map V.ref ++ [.ref T0])) q = some (.tup x) := fun q x e => by
            rw [upd_ne (fun z => by rw [z, f5] at e; cases e), upd_ne (ne_of_none e hT0)]
            exact e
          refine ⟨ps ++ [T0], pr ++ [r], _, _, _, _, _, rfl, by rw [upd_same, List.map_append]; rfl, Paired.snoc (r5.keep keepT) (by unfold RowAt; rw [upd_ne nTP]; exact upd_same), by rw [List.length_append, hl]; rfl, pn.snoc hc (by rw [hb]; omega) (by rw [hb, hl]; omega) ⟨_, he, by rw [hl]; omega⟩ ht, ?_, ?_⟩
          · exact ((pen5.mono (same_new hT0) (Nat.le_refl _)).upd ⟨nPL, nPLc⟩).more (by omega)
          · exact (kp5H.trans (Kept.of (same_new hT0))).upd hPL
        have lps : ps.length < sizeLine := by
          rw [Paired.length r5, hl]
          exact Nat.lt_trans i1000 (by decide)
        refine ⟨.ref PL, rfl, .inl ⟨rfl, _, SqL.of f5⟩, _, rfl, _, rfl, _, rfl, _, rfl, rfl, !g, (by cases g <;> decide +kernel), ?_⟩
        cases g with
        | false =>
          refine iteT' ⟨by show 5 ≤ sizeLine; decide, fun T0 hT0 => ⟨PL, _, _, rfl, rfl, same_new hT0 _ _ f5, by rw [List.length_map]; exact lps, _, rfl, rfl, true, by decide +kernel, iteT' ⟨_, rfl, ?_⟩⟩⟩
          exact fin ⟨"a", false, _, some _, none⟩ T0 hT0 rfl rfl rfl rfl rfl _ (by rw [last_snoc, if_pos rfl, hl]; rfl)
        | true =>
          refine iteF' ⟨_, rfl, by show 5 ≤ sizeLine; decide, fun T0 hT0 => ⟨PL, _, _, rfl, rfl, same_new hT0 _ _ f5, by rw [List.length_map]; exact lps, _, rfl, rfl, false, by decide +kernel, iteF' ⟨_, rfl, ?_⟩⟩⟩
          exact fin ⟨"a", true, _, some _, lastOfP pr⟩ T0 hT0 rfl rfl rfl rfl rfl _ (by rw [last_snoc, if_neg (fun z => nomatch z)])
    · rintro σ H2 ⟨ps, pr, x5, x6, x7, x8, x9, rfl, fPL, rw_, hl, pn, pen2, kp⟩
      refine ⟨Nat.zero_le _, fun SP hSP => ⟨.int m, rfl, m, rfl, RgOk.of_le (by decide) (by omega) (by decide) (by omega), fun LF hLF => ⟨by show 2 ≤ sizeLine; decide, fun t1 ht1 => ⟨t1, _, rfl, SqT.of upd_same, rfl, _, _, rfl, _, _, rfl, rfl, ?_⟩⟩⟩⟩
      rw [rg_nats] at ht1 ⊢
      have nSL : LF ≠ SP := fun z => by rw [z, upd_same] at hLF; cases hLF
      have sN : Same H2 (upd (upd (upd H2 SP (.lst [])) LF (.lst (nats (List.range m)))) t1 (.tup [.ref SP, .ref LF])) := (same_new hSP).trans ((same_new hLF).trans (same_new ht1))
      have fSP : upd (upd (upd H2 SP (.lst [])) LF (.lst (nats (List.range m)))) t1 (.tup [.ref SP, .ref LF]) SP = some (.lst []) := same_new ht1 _ _ (same_new hLF _ _ upd_same)
      have fLF : upd (upd (upd H2 SP (.lst [])) LF (.lst (nats (List.range m)))) t1 (.tup [.ref SP, .ref LF]) LF = some (.lst (nats (List.range m))) := same_new ht1 _ _ upd_same
      have nSP := pen2.nn hSP
      have nLF := pen2.nn (show H2 LF = none by rw [upd_ne nSL] at hLF; exact hLF)
      have h2SP := hSP
      have h2LF : H2 LF = none := by rw [upd_ne nSL] at hLF; exact hLF
      generalize upd (upd (upd H2 SP (.lst [])) LF (.lst (nats (List.range m)))) t1 (.tup [.ref SP, .ref LF]) = H3 at sN fSP fLF ⊢
      have pen3 := pen2.mono sN (Nat.le_refl _)
      have kp3 := kp.trans (Kept.of sN)
      refine ⟨.int m, rfl, m, rfl, by omega, by omega, for_range (n := m) (fun i σ H' => ∃ sp lf x12, σ = [some (.ref p), some (.int m), some (.int sd), some (.ref PL), some (oV (lastOfP pr)), x5, x6, x7, x8, x9, some (.ref SP), some (.ref LF), x12, none, none, none] ∧ H' SP = some (.lst (nats sp)) ∧ H' LF = some (.lst (nats lf)) ∧ (sp ++ lf).Perm (List.range m) ∧ sp.length = i ∧ PenAt H' p c cells (n + 4 * m + i) ∧ Kept p H2 H')
        ⟨[], List.range m, _, rfl, fSP, fLF, List.Perm.refl _, rfl, pen3, Kept.of sN⟩ ?_ ?_⟩
      · rintro i σ H4 hi ⟨sp, lf, x12, rfl, gSP, gLF, pm, sl, pen4, kp4⟩
        have ll : sp.length + lf.length = m := by
          have := pm.length_eq
          rw [List.length_append, List.length_range] at this
          exact this
        have nl : (nats lf).length = lf.length := by unfold nats; rw [List.length_map]
        show gName 12 (V.int (0 + (i : Int))) _ _ _
        refine nx_go ?_
        refine ⟨.ref SP, rfl, .inl ⟨rfl, _, SqL.of gSP⟩, .ref LF, rfl, .inl ⟨rfl, _, SqL.of gLF⟩, .ref p, rfl, .ref LF, rfl, .ref LF, lf.length, rfl, .inl ⟨_, SqL.of gLF, nl.symm⟩, p, c, cells, _, lf.length, rfl, pen4, by omega, by omega, by omega, fun r H5 r0 r1 pen5 kp5 => ?_⟩
        obtain ⟨j, rfl⟩ : ∃ j : Nat, r = j := ⟨_, (Int.toNat_of_nonneg r0).symm⟩
        have jl : j < lf.length := by omega
        have g5L := kp5 _ _ nLF.1 gLF
        have g5S := kp5 _ _ nSP.1 gSP
        have ej : (nats lf)[j]? = some (.int (lf[j] : Nat)) := by unfold nats; rw [List.getElem?_map, List.getElem?_eq_getElem jl]; rfl
        refine ⟨LF, _, _, j, _, rfl, rfl, g5L, by omega, by omega, (by rw [PySem.seqIndex_of r0 (by rw [nl]; exact r1)]; rfl), ej, ?_⟩
        refine ⟨SP, _, _, rfl, rfl, by rw [upd_ne nSL.symm]; exact g5S, by rw [show (nats sp).length = sp.length from by unfold nats; rw [List.length_map]]; exact Nat.lt_of_lt_of_le (show sp.length < 1000 by omega) (by decide), ?_⟩
        refine ⟨sp ++ [lf[j]], lf.eraseIdx j, _, rfl, by rw [upd_same]; unfold nats; rw [List.map_append]; rfl, ?_, ?_, by rw [List.length_append, sl]; rfl, ?_, ?_⟩
        · rw [upd_ne nSL, upd_same]
          unfold nats
          rw [map_erase]
        · refine List.Perm.trans ?_ pm
          rw [List.append_assoc]
          exact List.Perm.append_left _ (erase_perm jl)
        · exact ((pen5.upd nLF).upd nSP).more (by omega)
        · exact ((kp4.trans kp5).upd h2LF).upd h2SP
      · rintro σ H4 ⟨sp, lf, x12, rfl, gSP, gLF, pm, sl, pen4, kp4⟩
        have pm2 : sp.Perm (List.range pr.length) := by
          have h1 := pm.length_eq
          rw [List.length_append, List.length_range] at h1
          have : lf = [] := List.length_eq_zero_iff.mp (by omega)
          rw [this, List.append_nil] at pm
          rw [hl]
          exact pm
        have fPL4 := kp4 _ _ nPL fPL
        have rw4 : Rws H4 ps pr := Paired.mapP rw_ fun q r e => kp4 _ _ (fun z => by
          obtain ⟨a1, g1, h1, _⟩ := pen2.ex
          unfold RowAt at e
          rw [z, h1] at e
          cases e) e
        have kp4H := kp.trans kp4
        clear rw_ kp4 kp kp3 pen3 sN fSP fLF pen2 fPL gLF
        have spl : sp.length = m := by rw [pm2.length_eq, List.length_range, hl]
        have nSPl : (nats sp).length = m := by unfold nats; rw [List.length_map, spl]
        have m16 : m < sizeLine := Nat.lt_of_le_of_lt m2 (by decide)
        have pl4 : ps.length = m := by rw [Paired.length rw4, hl]
        refine ⟨.int m, rfl, m, rfl, by omega, by omega, fun PP hPP => ?_⟩
        have nPP := (pen4.nn hPP).1
        refine lc_it (walk_range (lo := 0) (n := m)) (fun i H' => H' = upd H4 PP (.lst (nats ((List.range i).map fun s => sp.idxOf s)))) rfl (fun _ _ _ _ => True.intro) ?_ ?_
        · rintro i x H5 H6 hi rfl ⟨rfl, hx⟩
          have ex : x = .int (i : Int) := by
            rw [hx]
            show V.int (0 + (i : Int)) = _
            rw [Int.zero_add]
          subst ex
          have il : i < pr.length := by omega
          have ixl := List.idxOf_lt_length_of_mem ((sp_mem pm2).mpr il)
          have gi : sp[sp.idxOf i]? = some i := by rw [List.getElem?_eq_getElem ixl, List.getElem_idxOf]
          have g5 := same_new (o := .lst (nats ((List.range i).map fun s => sp.idxOf s))) hPP _ _ gSP
          refine ⟨rfl, yes_go ⟨.ref SP, rfl, .inl ⟨rfl, _, SqL.of g5⟩, .int i, rfl, ?_⟩⟩
          refine ⟨SP, nats sp, .int i, sp.idxOf i, .int i, rfl, rfl, SqL.of g5, rfl, nats_flat _, by unfold nats; rw [List.getElem?_map, gi]; rfl, by show (i : Int) == (i : Int); simp, fun k z' hk hz => ?_, ?_⟩
          · unfold nats at hz
            rw [List.getElem?_map] at hz
            obtain ⟨y, hy, rfl⟩ := Option.map_eq_some_iff.mp hz
            show ((y : Int) == (i : Int)) = false
            have ne : y ≠ i := fun e => by
              subst e
              have := List.not_of_lt_findIdx (p := fun x => x == y) (xs := sp) (i := k) hk
              rw [(List.getElem?_eq_some_iff.mp hy).2] at this
              simp at this
            simp
            omega
          · refine ⟨_, upd_same, ?_, ?_⟩
            · unfold nats
              rw [List.length_map, List.length_map, List.length_range]
              omega
            · rw [upd_upd, List.range_succ, List.map_append]
              unfold nats
              rw [List.map_append]
              rfl
        rintro H5 rfl
        have s5 := same_new (o := .lst (nats ((List.range m).map fun s => sp.idxOf s))) hPP
        have fPP : upd H4 PP (.lst (nats ((List.range m).map fun s => sp.idxOf s))) PP = some (.lst (nats (placesOf sp pr.length))) := by rw [upd_same, ← hl]; rfl
        have pen5 := pen4.mono s5 (Nat.le_refl _)
        have kp5 := kp4H.trans (Kept.of s5)
        have g5 := s5 _ _ gSP
        have fPL5 := s5 _ _ fPL4
        have rw5 : Rws (upd H4 PP (.lst (nats ((List.range m).map fun s => sp.idxOf s)))) ps pr := rw4.keep fun q x e => s5 _ _ e
        generalize upd H4 PP (.lst (nats ((List.range m).map fun s => sp.idxOf s))) = H5 at s5 fPP pen5 kp5 g5 fPL5 rw5 ⊢
        clear pen4 kp4H gSP fPL4 rw4 s5 hPP
        refine ⟨.ref SP, rfl, SP, rfl, ⟨_, SqL.of g5⟩, fun D1 hD1 => ?_⟩
        have nD1 := (pen5.nn hD1).1
        refine lc_it (walk_list (K := K) (a := SP) (xs := nats sp)) (fun i H' => H' = upd H5 D1 (.lst (((sp.take i).map fun s => ps.getD s PL).map V.ref))) rfl (fun i H' _ e => by rw [e]; exact SqL.of (same_new hD1 _ _ g5)) ?_ ?_
        · rintro i x H6 H7 hi rfl ⟨rfl, hx⟩
          have hi2 : i < sp.length := by omega
          have ex : x = .int (sp[i] : Nat) := by
            unfold nats at hx
            rw [List.getElem?_map, List.getElem?_eq_getElem hi2] at hx
            exact (Option.some.inj hx).symm
          subst ex
          have hs : sp[i] < pr.length := (sp_mem pm2).mp (List.getElem_mem hi2)
          have g6 := same_new (o := .lst (((sp.take i).map fun s => ps.getD s PL).map V.ref)) hD1 _ _ fPL5
          refine ⟨rfl, yes_go ⟨.ref PL, rfl, .int (sp[i] : Nat), rfl, Sq.ix (.inl (SqL.of g6)) (show atI (ps.map V.ref) ((sp[i] : Nat) : Int) = some (.ref (ps[sp[i]]'(by omega))) from at_nat (by rw [List.getElem?_map, List.getElem?_eq_getElem (show sp[i] < ps.length by omega)]; rfl)) ⟨_, upd_same, ?_, ?_⟩⟩⟩
          · rw [List.length_map, List.length_map, List.length_take]
            omega
          · rw [upd_upd, List.take_add_one, List.getElem?_eq_getElem hi2, List.map_append, List.map_append]
            congr 3
            show [V.ref _] = [V.ref (ps.getD sp[i] PL)]
            rw [List.getD_eq_getElem?_getD, List.getElem?_eq_getElem (show sp[i] < ps.length by omega)]
            rfl
        rintro H6 rfl
        rw [nSPl, ← spl, List.take_of_length_le (Nat.le_refl _)]
        have s6 := same_new (o := .lst ((sp.map fun s => ps.getD s PL).map V.ref)) hD1
        have fD1 : upd H5 D1 (.lst ((sp.map fun s => ps.getD s PL).map V.ref)) D1 = some (.lst ((sp.map fun s => ps.getD s PL).map V.ref)) := upd_same
        have pen6 := pen5.mono s6 (Nat.le_refl _)
        have kp6 := kp5.trans (Kept.of s6)
        have fPP6 := s6 _ _ fPP
        have rw6 : ∀ s, s < pr.length → RowAt (upd H5 D1 (.lst ((sp.map fun s => ps.getD s PL).map V.ref))) (ps.getD s PL) (pr.getD s r0) := fun s h => by
          have := paired_at rw5 (i := s) (by omega) h
          rw [List.getD_eq_getElem?_getD, List.getD_eq_getElem?_getD, List.getElem?_eq_getElem (show s < ps.length by omega), List.getElem?_eq_getElem h]
          exact s6 _ _ this
        generalize upd H5 D1 (.lst ((sp.map fun s => ps.getD s PL).map V.ref)) = H6 at s6 fD1 pen6 kp6 fPP6 rw6 ⊢
        clear pen5 kp5 fPP rw5 g5 fPL5 s6 hD1
        have lD1 : (sp.map fun s => ps.getD s PL).length = sp.length := List.length_map _
        refine ⟨.ref D1, rfl, D1, rfl, ⟨_, SqL.of fD1⟩, fun D2 hD2 => ?_⟩
        have nD2 := (pen6.nn hD2).1
        refine lc_it (walk_list (K := K) (a := D1) (xs := (sp.map fun s => ps.getD s PL).map V.ref)) (fun i H' => ∃ qs : List Addr, H' D2 = some (.lst (qs.map V.ref)) ∧ Rws H' qs ((sp.take i).map fun s => reT (placesOf sp pr.length) (pr.getD s r0)) ∧ Same H6 H') ⟨[], upd_same, .nil, same_new hD2⟩ (fun i H' _ ⟨_, _, _, s'⟩ => SqL.of (s' _ _ fD1)) ?_ ?_
        · rintro i x H7 H8 hi ⟨qs, fq, rq, s7⟩ ⟨rfl, hx⟩
          have hi2 : i < sp.length := by rw [List.length_map, List.length_map] at hi; exact hi
          have hs : sp[i] < pr.length := (sp_mem pm2).mp (List.getElem_mem hi2)
          have ex : x = .ref (ps.getD sp[i] PL) := by
            rw [List.getElem?_map, List.getElem?_map, List.getElem?_eq_getElem hi2] at hx
            exact (Option.some.inj hx).symm
          subst ex
          have ra := s7 _ _ (rw6 sp[i] hs)
          have told : ∀ x, (pr.getD sp[i] r0).t = some x → ∃ q : Nat, x = q ∧ q < pr.length := fun x e => by
            rw [List.getD_eq_getElem?_getD, List.getElem?_eq_getElem hs] at e
            have e : pr[sp[i]].t = some x := e
            obtain ⟨_, _, _, _, a5⟩ := pn.at_ sp[i] pr[sp[i]] (List.getElem?_eq_getElem hs)
            rw [e] at a5
            split at a5
            · obtain ⟨a, q, b, e1, _, _, e4⟩ := OM.lastP_some a5.symm
              have : q ∈ List.range sp[i] := by rw [e1]; exact List.mem_append_right _ List.mem_cons_self
              exact ⟨q, e4, Nat.lt_trans (List.mem_range.mp this) hs⟩
            · cases a5
          have tk : (sp.take (i + 1)).map (fun s => reT (placesOf sp pr.length) (pr.getD s r0)) = (sp.take i).map (fun s => reT (placesOf sp pr.length) (pr.getD s r0)) ++ [reT (placesOf sp pr.length) (pr.getD sp[i] r0)] := by
            rw [List.take_add_one, List.getElem?_eq_getElem hi2, List.map_append]
            rfl
          rw [tk]
          have lq : qs.length = i := by
            rw [Paired.length rq, List.length_map, List.length_take]
            omega
          generalize ps.getD sp[i] PL = q0 at ra ⊢
          generalize pr.getD sp[i] r0 = r at ra told ⊢
          generalize (sp.take i).map (fun s => reT (placesOf sp pr.length) (pr.getD s r0)) = done at rq ⊢
          have ra : H8 q0 = some (.tup (rowV r)) := ra
          refine ⟨rfl, yes_go ⟨.ref q0, rfl, 4, rfl, q0, _, rfl, SqT.of ra, ?_, fun u hu => ?_⟩⟩
          · rintro ⟨_, h⟩
            have h : HT.sIx 5 5 (some 4) = 5 := h
            have := HT.sIx_nat 5 5 4
            rw [show ((4 : Nat) : Int) = 4 from rfl] at this
            rw [this] at h
            cases h
          have ec : cutV (rowV r) none (some 4) = [.str r.c, .str (wd r.g), .int r.b, oV r.e] := rfl
          rw [ec]
          have su := same_new (o := .tup [.str r.c, .str (wd r.g), .int r.b, oV r.e]) hu
          have fu : upd H8 u (.tup [.str r.c, .str (wd r.g), .int r.b, oV r.e]) u = some (.tup [.str r.c, .str (wd r.g), .int r.b, oV r.e]) := upd_same
          generalize upd H8 u (.tup [.str r.c, .str (wd r.g), .int r.b, oV r.e]) = H9 at su fu ⊢
          have r9 := su _ _ ra
          have at4 : atI (rowV r) 4 = some (oV r.t) := at_nat (i := 4) rfl
          have endG : ∀ v, v = oV (reT (placesOf sp pr.length) r).t → [v].length ≤ sizeLine ∧ ∀ z, H9 z = none → rCatA K (.ref u) (.ref z) (upd H9 z (.tup [v])) fun v' H'' => ∃ xs, H'' D2 = some (.lst xs) ∧ xs.length < sizeLine ∧ ∃ qs' : List Addr, upd H'' D2 (.lst (xs ++ [v'])) D2 = some (.lst (qs'.map V.ref)) ∧ Rws (upd H'' D2 (.lst (xs ++ [v']))) qs' (done ++ [reT (placesOf sp pr.length) r]) ∧ Same H6 (upd H'' D2 (.lst (xs ++ [v']))) := fun v ev => by
            subst ev
            refine ⟨by show 1 ≤ sizeLine; decide, fun z hz => ⟨u, z, _, _, rfl, rfl, SqT.of (same_new hz _ _ fu), SqT.of upd_same, by show 4 + 1 ≤ sizeLine; decide, fun e => (by cases e), fun _ e => (by cases e), fun _ _ y hy => ?_⟩⟩
            have sy := su.trans ((same_new (o := .tup [oV (reT (placesOf sp pr.length) r).t]) hz).trans (same_new (o := .tup ([.str r.c, .str (wd r.g), .int r.b, oV r.e] ++ [oV (reT (placesOf sp pr.length) r).t])) hy))
            have fq2 := sy _ _ fq
            have fy : upd (upd H9 z (.tup [oV (reT (placesOf sp pr.length) r).t])) y (.tup ([.str r.c, .str (wd r.g), .int r.b, oV r.e] ++ [oV (reT (placesOf sp pr.length) r).t])) y = some (.tup (rowV (reT (placesOf sp pr.length) r))) := upd_same
            generalize upd (upd H9 z (.tup [oV (reT (placesOf sp pr.length) r).t])) y (.tup ([.str r.c, .str (wd r.g), .int r.b, oV r.e] ++ [oV (reT (placesOf sp pr.length) r).t])) = HZ at sy fq2 fy ⊢
            have keepT : ∀ q x, HZ q = some (.tup x) → upd HZ D2 (.lst (qs.map V.ref ++ [.ref y])) q = some (.tup x) := fun q x e => by
              rw [upd_ne (fun z => by rw [z, fq2] at e; cases e)]
              exact e
            refine ⟨_, fq2, ?_, qs ++ [y], by rw [upd_same, List.map_append]; rfl, Paired.snoc (Paired.mapP rq fun q r e => keepT _ _ (sy _ _ e)) (keepT _ _ fy), fun b o e => ?_⟩
            · rw [List.length_map, lq]
              omega
            · rw [upd_ne (ne_of_none e hD2)]
              exact (s7.trans sy) b o e
          refine ⟨.ref q0, rfl, Sq.ix (.inr (SqT.of r9)) at4 ⟨rfl, r.t.isNone, (by cases r.t <;> rfl), ?_⟩⟩
          cases ht : r.t with
          | none => exact iteT' (endG _ (by show V.non = oV (r.t.map _); rw [ht]; rfl))
          | some x =>
            obtain ⟨qn, rfl, hq⟩ := told x ht
            refine iteF' ⟨.ref PP, rfl, .ref q0, rfl, Sq.ix (.inr (SqT.of r9)) (by rw [at4, ht]; rfl) (Sq.ix (.inl (SqL.of (su _ _ (s7 _ _ fPP6)))) (show atI (nats (placesOf sp pr.length)) ((qn : Nat) : Int) = some (.int (sp.idxOf qn : Nat)) from at_nat (by unfold nats; rw [List.getElem?_map, places_get hq]; rfl)) (endG _ ?_))⟩
            show _ = oV (r.t.map fun x => ((((placesOf sp pr.length)[x.toNat]?).getD 0 : Nat) : Int))
            rw [ht]
            show _ = V.int ((((placesOf sp pr.length)[((qn : Nat) : Int).toNat]?).getD 0 : Nat) : Int)
            rw [Int.toNat_natCast, places_get hq]
            rfl
        rintro H7 ⟨qs, fq, rq, s7⟩
        rw [List.length_map, lD1, List.take_of_length_le (Nat.le_refl _)] at rq
        have rq : Rws H7 qs (mixR pr sp (placesOf sp pr.length)) := rq
        refine ⟨.ref D2, rfl, .ref PP, rfl, PP, _, rfl, .inl ⟨SqL.of (s7 _ _ fPP6), fun o ho => ⟨by show 2 ≤ sizeLine; decide, fun t ht => ?_⟩⟩⟩
        have so := (same_new (o := .tup (nats (placesOf sp pr.length))) ho).trans (same_new (o := .tup [.ref D2, .ref o]) ht)
        have lm : (mixR pr sp (placesOf sp pr.length)).length = m := by unfold mixR; rw [List.length_map, spl]
        refine q t D2 o (mixR pr sp (placesOf sp pr.length)) (placesOf sp pr.length) _ nD2 ((pen6.mono (s7.trans so) (Nat.le_refl _)).more (by omega)) (kp6.trans (Kept.of (s7.trans so))) upd_same ?_ (same_new ht _ _ upd_same) (led_of pn pm2) lm
        refine ⟨qs, so _ _ fq, Paired.length rq, fun i q' r' e1 e2 => ?_⟩
        obtain ⟨h1, e1⟩ := List.getElem?_eq_some_iff.mp e1
        obtain ⟨h2, e2⟩ := List.getElem?_eq_some_iff.mp e2
        have := paired_at rq h1 h2
        rw [e1, e2] at this
        exact so _ _ this
end
end K37
end

section
set_option Elab.async false
set_option linter.all false
set_option maxRecDepth 100000
set_option maxHeartbeats 4000000
/-! rows that are drawn -/
namespace K37
open PySem L2 KZ
abbrev sRows : Stmt := top 39
structure RowOk (gs : List Bool) (s : Int) (g : Bool) (r : Row) : Prop where
  c : r.c = ("a" : Str)
  g : r.g = g
  b0 : 0 ≤ r.b
  b1 : r.b < s
  e0 : ∀ e, r.e = some e → r.b < e ∧ e < 2 * s + 1
  t0 : ∀ t, r.t = some t → r.g = true ∧ r.e ≠ none ∧ ∃ u : Nat, t = u ∧ gs[u]? = some false
def RowsOk (gs : List Bool) (s : Int) (rs : List Row) : Prop := rs.length ≤ gs.length ∧ ∀ (i : Nat) r g, rs[i]? = some r → gs[i]? = some g → RowOk gs s g r
theorem RowsOk.row {gs : List Bool} {s : Int} {rs : List Row} (h : RowsOk gs s rs) {r : Row} (m : r ∈ rs) : ∃ g, RowOk gs s g r := by
  obtain ⟨i, hi, rfl⟩ := List.mem_iff_getElem.mp m
  have hg : i < gs.length := by have := h.1; omega
  exact ⟨gs[i], h.2 i _ _ (List.getElem?_eq_getElem hi) (List.getElem?_eq_getElem hg)⟩
theorem RowOk.ok {gs : List Bool} {s : Int} {g : Bool} {r : Row} (h : RowOk gs s g r) : r.Ok := by
  refine ⟨?_, h.b0, fun e z => (h.e0 e z).1, fun t z => ?_⟩
  · rw [h.c]; decide +kernel
  · obtain ⟨a, b, u, rfl, _⟩ := h.t0 t z
    exact ⟨a, b, by omega⟩
theorem RowOk.short {gs : List Bool} {s : Int} {g : Bool} {r : Row} (h : RowOk gs s g r) : r.c.length ≤ 8 := by
  rw [h.c]; decide +kernel
theorem RowsOk.ok {gs : List Bool} {s : Int} {rs : List Row} (h : RowsOk gs s rs) : ∀ r ∈ rs, r.Ok := fun r m => by
  obtain ⟨g, k⟩ := h.row m
  exact k.ok
theorem RowsOk.nobad {gs : List Bool} {s : Int} {rs : List Row} (h : RowsOk gs s rs) (e : rs.length = gs.length) : firstBad rs = none := by
  unfold firstBad
  rw [List.find?_range_eq_none]
  intro i hi
  unfold badAt
  rw [List.getElem?_eq_getElem hi]
  have hg : i < gs.length := by omega
  have k := h.2 i _ _ (List.getElem?_eq_getElem hi) (List.getElem?_eq_getElem hg)
  generalize rs[i] = r at k
  show (!(match r.t with
    | none => false
    | some j => decide ((rs.length : Int) ≤ j) || (match rs[j.toNat]? with
      | some r => r.g
      | none => true))) = true
  cases ht : r.t with
  | none => rfl
  | some t =>
    obtain ⟨_, _, u, rfl, hu⟩ := k.t0 t ht
    have hul : u < gs.length := (List.getElem?_eq_some_iff.mp hu).1
    have hur : u < rs.length := by omega
    have k2 := h.2 u _ _ (List.getElem?_eq_getElem hur) hu
    show (!(decide ((rs.length : Int) ≤ (u : Int)) || (match rs[((u : Int)).toNat]? with
      | some r => r.g
      | none => true))) = true
    rw [show ((u : Int)).toNat = u from rfl, List.getElem?_eq_getElem hur]
    show (!(decide ((rs.length : Int) ≤ (u : Int)) || rs[u].g)) = true
    rw [k2.g, decide_eq_false (by omega)]
    rfl
def spRows : Sp := fun vs H Q _ => ∃ (p c : Addr) (cells : List Int) (n k : Nat) (s : Int), vs = [.ref p, .int k, .int s] ∧ PenAt H p c cells n ∧ n ≤ 5000 ∧ k ≤ 14 ∧ 0 < s ∧ s ≤ 1000000000000 ∧
  ∀ a gs rs H', H a = none → gs.length = k → rs.length = k → RowsOk gs s rs → RowsAt H' a rs → PenAt H' p c cells (n + 100) → Kept p H H' → Q (.ref a) H'
def putsB (gs : List Bool) (i : Nat) : Bool := match gs[i]? with
  | some g => !g
  | none => false
section
variable {P : Program} {w : World} {K : PySem.W.Frag} {mg : Str → Option Value} {base : Heap} {fD fO : Addr} {dD dO : FuncData}
theorem scRows : FnScope ["well", "many", "span", "words", "turn", "puts_so", "found", "at", "begun", "ended", "told"] ["well", "many", "span"] (defScope sRows) := ⟨rfl, rfl, rfl, by decide +kernel, rfl, by decide +kernel, by decide +kernel⟩
theorem ok_rows {f : Addr} {fd : FuncData} (F : Fun K "_law_rows" "_law_rows" sRows f fd) (T : B1 mg) (draw : Cal P w K mg base "_law_draw" 1 ["well", "many"] spDraw) (one : Cal P w K mg base "_law_one" 2 ["well", "some"] spOne) : FnOk P w K mg base CX0 3 f fd ["well", "many", "span"] spRows := by
  obtain ⟨fD, dD, gD, GD, kD, bD⟩ := draw.ex
  obtain ⟨fO, dO, gO, GO, kO, bO⟩ := one.ex
  refine F.ok scRows (fun vs H Q E h => ?_) (fun cdv A' outer s0 H vs Q E hr h => ?_)
  · obtain ⟨p, c, cells, n, k, s, rfl, _⟩ := h
    rfl
  · obtain ⟨p, c, cells, n, k, s, rfl, pen, hn, hk, hs0, hs1, q⟩ := h
    have hr2 : Room 2 _ := hr
    have hr1 : Room 1 _ := hr.mono (by decide)
    refine ⟨_, (pss_cons (ps_set (i := 3) scRows.nd rfl (Or.inr rfl) (pe_lc (own := [("turn", 4)]) (g := gName 4) (tt := tYes) (by rfl) scRows.nd (pi_range1 (by rfl) T.range (pa_cons (pv 1) pa_nil)) (blkOk_by (own := [("turn", 4)]) (N := ["well", "many", "span", "words", "turn", "puts_so", "found", "at", "begun", "ended", "told"]) (sc := defScope sRows) (by decide +kernel)) (fun _ _ _ _ _ => pg_name (i := 4) scRows.nd rfl (Or.inl rfl)) (fun _ _ _ _ _ => pts_nil) (fun _ _ _ _ _ => pe_call GO hr2 (by rfl) gO kO bO .nil pass0 (pa_cons (pv 0) (pa_cons (pe_lst (pa_cons pe_str (pa_cons pe_str pa_nil))) pa_nil)))))
(pss_cons (ps_par (i := 5) (j := 6) (by rfl) scRows.nd rfl rfl (by decide) rfl rfl (pa_cons (pe_lc (own := [("at", 7)]) (g := gName 7) (by rfl) scRows.nd (pi_range1 (by rfl) T.range (pa_cons (pv 1) pa_nil)) (blkOk_by (own := [("at", 7)]) (N := ["well", "many", "span", "words", "turn", "puts_so", "found", "at", "begun", "ended", "told"]) (sc := defScope sRows) (by decide +kernel)) (fun _ _ _ _ _ => pg_name (i := 7) scRows.nd rfl (Or.inl rfl)) (fun _ _ _ _ _ => pts_one (pt_cmpR op_eq (pe_ix (ix_seqK K) (pv 3) (pv 7) (fun _ _ => rfl)) pe_str (nomark _))) (fun _ _ _ _ _ => pv 7)) (pa_cons (pe_lst pa_nil) pa_nil)) (by rfl))
(pss_cons (ps_for PassesOwn.never rfl (pi_range1 (by rfl) T.range (pa_cons (pv 1) pa_nil)) (pg_name (i := 7) scRows.nd rfl (Or.inl rfl))
(pss_cons (ps_set (i := 8) scRows.nd rfl (Or.inl rfl) (pe_call GD hr1 (by rfl) gD kD bD .nil pass0 (pa_cons (pv 0) (pa_cons (pv 2) pa_nil))))
(pss_cons (ps_set (i := 9) scRows.nd rfl (Or.inl rfl) (pe_ifExp (pt_cmpR op_eq (pe_call GD hr1 (by rfl) gD kD bD .nil pass0 (pa_cons (pv 0) (pa_cons pe_int pa_nil))) pe_int (nomark _)) pe_non (pe_op op_add (pe_op op_add (pv 8) pe_int) (pe_call GD hr1 (by rfl) gD kD bD .nil pass0 (pa_cons (pv 0) (pa_cons (pv 2) pa_nil))))))
(pss_cons (ps_set (i := 10) scRows.nd rfl (Or.inl rfl) pe_non)
(pss_cons (ps_if (PW.pt (pw_and (pt_cmpR op_eq (pe_ix (ix_seqK K) (pv 3) (pv 7) (fun _ _ => rfl)) pe_str (nomark _)) (pw_and (pt_cmpR op_notN (pv 9) pe_non (nomark _)) (pw_and (pt_cmpR (op_neD hr.units) (pv 5) (pe_lst pa_nil) (nomark _)) (pw_and1 (pt_cmpR op_gt (pe_call GD hr1 (by rfl) gD kD bD .nil pass0 (pa_cons (pv 0) (pa_cons pe_int pa_nil))) pe_int (nomark _)))))))
(pss_one (ps_set (i := 10) scRows.nd rfl (Or.inl rfl) (pe_call GO hr2 (by rfl) gO kO bO .nil pass0 (pa_cons (pv 0) (pa_cons (pv 5) pa_nil)))))
pss_nil)
(pss_one (ps_expr (pe_bm PySem.F.plainAttrs_list PySem.F.slot_list_append PySem.F.type_list_append mt_append (pv 6) (pa_cons (pe_tup (pa_cons pe_str (pa_cons (pe_ix (ix_seqK K) (pv 3) (pv 7) (fun _ _ => rfl)) (pa_cons (pv 8) (pa_cons (pv 9) (pa_cons (pv 10) pa_nil)))))) pa_nil)))))))))
(pss_one (ps_ret (pv 6)))))), ?_⟩
    refine ⟨.int k, rfl, (k : Int), rfl, by omega, by omega, fun W hW => ?_⟩
    have hWp := pen.nn hW
    refine lc_it (walk_range (lo := 0) (n := k)) (fun i H' => ∃ gs : List Bool, gs.length = i ∧ H' W = some (.lst (gs.map fun g => V.str (wd g))) ∧ PenAt H' p c cells (n + i) ∧ Kept p H H') ⟨[], rfl, upd_same, pen.mono (same_new hW) (by omega), Kept.of (same_new hW)⟩ (fun _ _ _ _ => True.intro) ?_ ?_
    · rintro i x H0_ H1 hi ⟨gs, gl, hw, pn, kp⟩ ⟨rfl, _⟩
      refine ⟨rfl, yes_go ⟨.ref p, rfl, by show 2 ≤ sizeLine; decide, fun L hL => ?_⟩⟩
      have pl : PenAt (upd H1 L (.lst [V.str "put", V.str "get"])) p c cells (n + i) := pn.mono (same_new hL) (Nat.le_refl _)
      refine ⟨p, c, L, cells, n + i, _, rfl, pl, by omega, upd_same, (pn.nn hL).1, by decide, by decide, fun j x H3 ex pn3 kp3 => ?_⟩
      obtain ⟨g, rfl⟩ : ∃ g, x = .str (wd g) := by
        rcases j with _ | _ | j
        · exact ⟨false, (Option.some.inj ex).symm⟩
        · exact ⟨true, (Option.some.inj ex).symm⟩
        · cases ex
      have kl : Kept p H H3 := kp.trans ((Kept.of (same_new hL)).trans kp3)
      refine ⟨_, kp3 _ _ hWp.1 (same_new hL _ _ hw), ?_, gs ++ [g], ?_, ?_, pn3.upd hWp, kl.upd hW⟩
      · rw [List.length_map, gl]
        exact Nat.lt_of_lt_of_le (show i < 14 by omega) (by decide)
      · rw [List.length_append, gl]; rfl
      · rw [upd_same, List.map_append]; rfl
    rintro H2 ⟨gs, gl, hw, pn, kp⟩
    -- the puts
    refine ⟨.int k, rfl, (k : Int), rfl, by omega, by omega, fun U hU => ?_⟩
    have hUp := pn.nn hU
    refine lc_it (walk_range (lo := 0) (n := k)) (fun i H' => H' = upd H2 U (.lst (nats ((List.range i).filter (putsB gs))))) rfl (fun _ _ _ _ => True.intro) ?_ ?_
    · rintro i x H3 H4 hi rfl ⟨rfl, hx⟩
      have ex : x = .int (i : Int) := by
        rw [hx]
        show V.int (0 + (i : Int)) = _
        rw [Int.zero_add]
      subst ex
      obtain ⟨g, hg⟩ : ∃ g, gs[i]? = some g := ⟨_, List.getElem?_eq_getElem (show i < gs.length by omega)⟩
      have atw : atI (gs.map fun g => V.str (wd g)) (i : Int) = some (.str (wd g)) := at_nat (by rw [List.getElem?_map, hg]; rfl)
      have tk : nats ((List.range (i + 1)).filter (putsB gs)) = nats ((List.range i).filter (putsB gs)) ++ (if g = false then [V.int (i : Int)] else []) := by
        have pb : putsB gs i = !g := by unfold putsB; rw [hg]
        rw [List.range_succ, List.filter_append]
        cases g with
        | true => simp [nats, pb]
        | false => simp [nats, pb]
      rw [tk]
      refine ⟨rfl, .ref W, rfl, .int i, rfl, Sq.ix (.inl (SqL.of (same_new hU _ _ hw))) atw ⟨rfl, !g, (by cases g <;> decide +kernel), ?_⟩⟩
      cases g with
      | true =>
        show _ = _
        rw [if_neg (by decide), List.append_nil]
      | false =>
        refine ⟨_, rfl, _, upd_same, ?_, ?_⟩
        · unfold nats
          rw [List.length_map]
          refine Nat.lt_of_le_of_lt (Nat.le_trans (List.length_filter_le _ _) (show _ ≤ 14 from ?_)) (by decide)
          rw [List.length_range]
          omega
        · rw [upd_upd]
          rfl
    rintro H3 rfl
    refine ⟨Nat.zero_le _, fun F hF => ⟨_, _, rfl, ?_⟩⟩
    have s3 : Same H2 (upd H2 U (.lst (nats ((List.range k).filter (putsB gs))))) := same_new hU
    have hu3 : upd H2 U (.lst (nats ((List.range k).filter (putsB gs)))) U = some (.lst (nats ((List.range k).filter (putsB gs)))) := upd_same
    have pn3 := pn.mono s3 (Nat.le_refl _)
    have kp3 := kp.trans (Kept.of s3)
    have hw3 := s3 _ _ hw
    generalize upd H2 U (.lst (nats ((List.range k).filter (putsB gs)))) = H3 at hF pn3 kp3 hw3 hu3 ⊢
    have hFp := pn3.nn hF
    have fin0 : ∀ (g : Bool) (i : Nat), gs[i]? = some g → atI (gs.map fun g => V.str (wd g)) (i : Int) = some (.str (wd g)) := fun g i hg => at_nat (by rw [List.getElem?_map, hg]; rfl)
    refine ⟨.int k, rfl, (k : Int), rfl, by omega, by omega, for_range (n := k) (fun i σ H' => ∃ x7 x8 x9 x10 rs ps, σ = [some (.ref p), some (.int k), some (.int s), some (.ref W), none, some (.ref U), some (.ref F), x7, x8, x9, x10] ∧ rs.length = i ∧
      (∀ (j : Nat) r g, rs[j]? = some r → gs[j]? = some g → RowOk gs s g r) ∧ H' F = some (.lst (ps.map V.ref)) ∧ ps.length = i ∧ (∀ (j : Nat) q r, ps[j]? = some q → rs[j]? = some r → RowAt H' q r) ∧ PenAt H' p c cells (n + 14 + 6 * i) ∧ Kept p H3 H')
      ⟨_, _, _, _, [], [], rfl, rfl, fun j r g e => (by cases e), upd_same, rfl, fun j q r e => (by cases e), (pn3.mono (same_new hF) (by omega)), Kept.of (same_new hF)⟩ ?_ ?_⟩
    · rintro i σ H5 hi ⟨x7, x8, x9, x10, rs, ps, rfl, rl, ro, hf, pl, ra, pn5, kp5⟩
      obtain ⟨g, hg⟩ : ∃ g, gs[i]? = some g := ⟨_, List.getElem?_eq_getElem (show i < gs.length by omega)⟩
      have ix0 : (V.int (0 + (i : Int))) = V.int (i : Int) := by rw [Int.zero_add]
      have sqw : ∀ H', Kept p H3 H' → Sq K H' W (gs.map fun g => V.str (wd g)) := fun H' z => .inl (SqL.of (z _ _ hWp.1 hw3))
      have atw := fin0 g i hg
      rw [ix0]
      refine ⟨.ref p, rfl, .int s, rfl, p, c, cells, _, s, rfl, pn5, by omega, hs0, hs1, fun b H6 b0 b1 pn6 kp6 => ?_⟩
      refine nx_go ?_
      dsimp only
      refine asg_of (fun v H' => ∃ e : Option Int, v = oV e ∧ (∀ x, e = some x → b < x ∧ x < 2 * s + 1) ∧ PenAt H' p c cells (n + 14 + 6 * i + 3) ∧ Kept p H5 H') (fun Q z => ?_) (fun v H7 ⟨e, ev, e1, pn7, kp7⟩ => ?_)
      · refine ⟨.ref p, rfl, p, c, cells, _, 6, rfl, pn6, by omega, by decide, by decide, fun d H7 d0 d1 pn7 kp7 => ⟨rfl, decide (d = 0), ?_, ?_⟩⟩
        · by_cases h : d = 0
          · rw [h]; rfl
          · rw [decide_eq_false h, decide_eq_false (fun y => h (V.int.inj y))]
        · by_cases h : d = 0
          · rw [decide_eq_true h]
            exact iteT' (z _ _ ⟨none, rfl, fun x y => (nomatch y), pn7.more (by omega), kp6.trans kp7⟩)
          · rw [decide_eq_false h]
            refine iteF' ⟨_, rfl, b, 1, rfl, rfl, .ref p, rfl, .int s, rfl, p, c, cells, _, s, rfl, pn7, by omega, hs0, hs1, fun y H8 y0 y1 pn8 kp8 => ⟨_, _, rfl, rfl, z _ _ ⟨some (b + 1 + y), rfl, fun x hx => ?_, pn8.more (by omega), kp6.trans (kp7.trans kp8)⟩⟩⟩
            cases hx
            exact ⟨by omega, by omega⟩
      · subst ev
        refine nx_go ?_
        refine seq_c ?_
        refine if_told (fun v H' => PenAt H' p c cells (n + 14 + 6 * i + 4) ∧ Kept p H5 H' ∧ (v = true → g = true ∧ e ≠ none ∧ nats ((List.range k).filter (putsB gs)) ≠ []))
          (fun t H' => PenAt H' p c cells (n + 14 + 6 * i + 5) ∧ Kept p H5 H' ∧ ∀ x, t = some x → g = true ∧ e ≠ none ∧ ∃ u : Nat, x = u ∧ gs[u]? = some false) rfl (fun Q z => ?_) (fun H8 ⟨pn8, kp8, ok8⟩ Q z => ?_) (fun H8 ⟨pn8, kp8, _⟩ => ⟨pn8.more (by omega), kp8, fun x y => (nomatch y)⟩) (fun t H8 ⟨pn8, kp8, tk⟩ => ?_)
        · refine ⟨.ref W, rfl, .int i, rfl, Sq.ix (sqw _ (kp5.trans kp7)) atw ⟨rfl, g, (by cases g <;> decide +kernel), ?_⟩⟩
          cases hgv : g with
          | false => exact iteF' (z _ _ ⟨pn7.more (by omega), kp7, fun y => (nomatch y)⟩)
          | true =>
            refine iteT' ⟨oV e, rfl, rfl, e.isSome, (by cases e <;> rfl), ?_⟩
            cases hev : e with
            | none => exact iteF' (z _ _ ⟨pn7.more (by omega), kp7, fun y => (nomatch y)⟩)
            | some e' =>
              refine iteT' ⟨.ref U, rfl, Nat.zero_le _, fun L hL => ?_⟩
              have hu7 := (kp5.trans kp7) _ _ hUp.1 hu3
              have nm : nats ((List.range k).filter (putsB gs)) = (((List.range k).filter (putsB gs)).map fun (i : Nat) => (i : Int)).map V.int := by
                unfold nats
                rw [List.map_map]
                rfl
              have sL : Same H7 (upd H7 L (.lst [])) := same_new hL
              refine ⟨_, _, Dp.lst (SqL.of (sL _ _ (nm ▸ hu7))) (dp_ints _), Dp.lst (SqL.of upd_same) .nil, shaped_ints _, by decide +kernel, _, rfl, ?_⟩
              rw [eqv_nil]
              have pnL := pn7.mono sL (Nat.le_refl _)
              have kpL : Kept p H5 (upd H7 L (.lst [])) := kp7.trans (Kept.of sL)
              cases hn0 : (((List.range k).filter (putsB gs)).map fun (i : Nat) => (i : Int)).isEmpty with
              | true => exact iteF' (z _ _ ⟨pnL.more (by omega), kpL, fun y => (nomatch y)⟩)
              | false =>
                refine iteT' ⟨.ref p, rfl, p, c, cells, _, 5, rfl, pnL, by omega, by decide, by decide, fun d H8 d0 d1 pn8 kp8 => ⟨d, 0, rfl, rfl, _, rfl, z _ _ ⟨pn8.more (by omega), kpL.trans kp8, fun _ => ⟨hgv, fun y => (by rw [hev] at y; cases y), fun y => ?_⟩⟩⟩⟩
                rw [nm] at y
                rw [List.map_eq_nil_iff.mp y] at hn0
                cases hn0
        · obtain ⟨g1, e2, ne⟩ := ok8 rfl
          have hu8 := (kp5.trans kp8) _ _ hUp.1 hu3
          refine ⟨.ref p, rfl, .ref U, rfl, p, c, U, cells, _, _, rfl, pn8, by omega, hu8, hUp.1, List.length_pos_iff.mpr ne, ?_, fun j x H9 ex pn9 kp9 => ?_⟩
          · unfold nats
            rw [List.length_map]
            refine Nat.le_trans (List.length_filter_le _ _) ?_
            rw [List.length_range]
            omega
          · unfold nats at ex
            rw [List.getElem?_map] at ex
            obtain ⟨u, hu, rfl⟩ := Option.map_eq_some_iff.mp ex
            have mu := (List.mem_filter.mp (List.mem_of_getElem? hu)).2
            refine z (some (u : Int)) _ ⟨pn9.more (by omega), kp8.trans kp9, fun y hy => ⟨g1, e2, u, (Option.some.inj hy).symm, ?_⟩⟩
            unfold putsB at mu
            cases hgu : gs[u]? with
            | none => rw [hgu] at mu; cases mu
            | some gu =>
              rw [hgu] at mu
              cases gu with
              | true => cases mu
              | false => rfl
        · have hf8 := kp8 _ _ hFp.1 hf
          have kp59 := kp8
          have hf9 := hf8
          have pn9 := pn8
          generalize H8 = H9 at hf8 kp59 hf9 pn9 pn8 kp8 ⊢
          refine ⟨.ref F, rfl, .inl ⟨rfl, _, SqL.of hf8⟩, ?_⟩
          refine ⟨.ref W, rfl, .int i, rfl, Sq.ix (sqw _ (kp5.trans kp59)) atw ⟨_, rfl, _, rfl, _, rfl, by show 5 ≤ sizeLine; decide, fun T0 hT0 => ?_⟩⟩
          refine ⟨F, _, _, rfl, rfl, same_new hT0 _ _ hf9, ?_, ?_⟩
          · rw [List.length_map, pl]
            exact Nat.lt_of_lt_of_le (show i < 14 by omega) (by decide)
          · have hT := pn9.nn hT0
            have nFT : T0 ≠ F := (ne_of_none hf9 hT0).symm
            refine ⟨_, _, _, _, rs ++ [⟨"a", g, b, e, t⟩], ps ++ [T0], rfl, by rw [List.length_append, rl]; rfl, ?_, by rw [upd_same, List.map_append]; rfl, by rw [List.length_append, pl]; rfl, ?_, ?_, ?_⟩
            · intro j r g' e3 e4
              by_cases hj : j < rs.length
              · rw [List.getElem?_append_left hj] at e3
                exact ro j r g' e3 e4
              · rw [List.getElem?_append_right (by omega)] at e3
                have hj0 : j - rs.length = 0 := by
                  cases hz : j - rs.length with
                  | zero => rfl
                  | succ m => rw [hz] at e3; cases e3
                rw [hj0] at e3
                have : j = i := by omega
                subst this
                rw [hg] at e4
                cases e3
                cases e4
                exact ⟨rfl, rfl, b0, b1, e1, tk⟩
            · intro j q r e3 e4
              by_cases hj : j < ps.length
              · rw [List.getElem?_append_left hj] at e3
                rw [List.getElem?_append_left (by omega)] at e4
                have old := ra j q r e3 e4
                have qp : q ≠ p := fun z => by
                  obtain ⟨a1, g1, h1, _⟩ := pn5.ex
                  unfold RowAt at old
                  rw [z, h1] at old
                  cases old
                have qF : q ≠ F := fun z => by
                  unfold RowAt at old
                  rw [z, hf] at old
                  cases old
                unfold RowAt
                rw [upd_ne qF]
                exact same_new hT0 _ _ (kp59 _ _ qp old)
              · rw [List.getElem?_append_right (by omega)] at e3
                rw [List.getElem?_append_right (by omega)] at e4
                have hj0 : j - ps.length = 0 := by
                  cases hz : j - ps.length with
                  | zero => rfl
                  | succ m => rw [hz] at e3; cases e3
                rw [hj0] at e3
                rw [show j - rs.length = 0 by omega] at e4
                cases e3
                cases e4
                unfold RowAt
                rw [upd_ne nFT, upd_same]
                rfl
            · exact ((pn9.mono (same_new hT0) (Nat.le_refl _)).upd hFp).more (by omega)
            · exact ((kp5.trans kp59).trans (Kept.of (same_new hT0))).upd hF
    · rintro σ H5 ⟨x7, x8, x9, x10, rs, ps, rfl, rl, ro, hf, pl, ra, pn5, kp5⟩
      exact ⟨.ref F, rfl, q F gs rs H5 (kp3.nn hF hFp.1) gl rl ⟨by omega, ro⟩ ⟨ps, hf, by omega, ra⟩ (pn5.more (by omega)) (kp3.trans kp5)⟩
end
end K37
end

section
set_option Elab.async false
set_option linter.all false
set_option maxRecDepth 100000
set_option maxHeartbeats 4000000
/-! what is read of data; asks that are made of rows -/
namespace K37
open PySem PySem.Spec PyProof.Rows L2 KZ
/-- what can be told of a value -/
def Tell (d : PyData) : Prop := d.showable = true ∧ d.shown.length ≤ 10000 ∧ d.depth ≤ 40
/-- what can be shown -/
structure Sm (L D : Nat) (d : PyData) : Prop where
  sh : d.showable = true
  ln : d.shown.length ≤ L
  dp : d.depth ≤ D
theorem Sm.mono {L D L' D' : Nat} {d : PyData} (h : Sm L D d) (a : L ≤ L') (b : D ≤ D') : Sm L' D' d := ⟨h.sh, Nat.le_trans h.ln a, Nat.le_trans h.dp b⟩
theorem Sm.tell {L D : Nat} {d : PyData} (h : Sm L D d) (a : L ≤ 10000) (b : D ≤ 40) : Tell d := ⟨h.sh, Nat.le_trans h.ln a, Nat.le_trans h.dp b⟩
theorem sm_all {L D : Nat} : ∀ {ds : List PyData}, (∀ d ∈ ds, Sm L D d) → PyData.showableAll ds = true ∧ ((PyData.shownAll ds).map (·.length)).sum ≤ L * ds.length ∧ (PyData.shownAll ds).length = ds.length ∧ PyData.depthAll ds ≤ D
  | [], _ => ⟨by simp only [PyData.showableAll], by simp [PyData.shownAll], by simp [PyData.shownAll], by simp [PyData.depthAll]⟩
  | d :: ds, h => by
    obtain ⟨h1, h2, h3, h4⟩ := sm_all (ds := ds) fun x hx => h x (List.mem_cons_of_mem _ hx)
    obtain ⟨a1, a2, a3⟩ := h d List.mem_cons_self
    refine ⟨by simp only [PyData.showableAll, a1, h1, Bool.and_self], ?_, by simp only [PyData.shownAll, List.length_cons, h3], ?_⟩
    · simp only [PyData.shownAll, List.map_cons, List.sum_cons, List.length_cons, Nat.mul_add, Nat.mul_one]
      omega
    · simp only [PyData.depthAll]
      omega
theorem Sm.tup {L D : Nat} {ds : List PyData} (h : ∀ d ∈ ds, Sm L D d) : Sm (L * ds.length + 2 * ds.length + 3) (D + 1) (.tuple ds) := by
  obtain ⟨h1, h2, h3, h4⟩ := sm_all h
  refine ⟨by simpa only [PyData.showable] using h1, ?_, by simp only [PyData.depth]; omega⟩
  have z := tupleText_len_le (PyData.shownAll ds)
  simp only [PyData.shown]
  rw [h3] at z
  omega
def SmI (i : Int) : Prop := i.natAbs < 10 ^ 13
theorem sm_int {i : Int} (h : SmI i) : Sm 14 0 (.int i) := by
  refine ⟨?_, ?_, Nat.le_refl 0⟩
  · simp only [PyData.showable, decide_eq_true_eq]
    by_cases z : i.natAbs = 0
    · rw [z]; decide
    · exact (Nat.log2_lt z).mpr (Nat.lt_of_lt_of_le h (by
        have : (10 : Nat) ^ 13 ≤ 2 ^ 1920 := Nat.le_trans (show (10 : Nat) ^ 13 ≤ 2 ^ 44 by decide) (Nat.pow_le_pow_right (by decide) (show 44 ≤ 1920 by decide))
        exact this))
  · have e := int_text_length_le10 (k := 13) (by decide) h
    show (Str.ofString (toString i)).length ≤ 14
    rw [PySem.ofString_length]
    exact e
theorem sm_non : Sm 14 0 .none := ⟨rfl, by decide +kernel, Nat.le_refl 0⟩
theorem sm_bool (b : Bool) : Sm 14 0 (.bool b) := by cases b <;> exact ⟨rfl, by decide +kernel, Nat.le_refl 0⟩
theorem sm_opt {o : Option Int} (h : ∀ i, o = some i → SmI i) : Sm 14 0 (oD o) := by
  cases o with
  | none => exact sm_non
  | some i => exact sm_int (h i rfl)
def rowD (r : Row) : PyData := .tuple [.str r.c, .str (wd r.g), .int r.b, oD r.e, oD r.t]
theorem shaped_of {d : PyData} (h1 : PyData.canLay0 d = true) (h2 : PyData.depth d ≤ 64) : SeqAt.shaped d = true := by
  unfold SeqAt.shaped
  rw [h1, decide_eq_true h2]
  rfl
theorem ints_map (l : List Nat) : (l.map fun (i : Nat) => PyData.int (i : Int)) = (l.map fun (i : Nat) => (i : Int)).map PyData.int := by
  rw [List.map_map]
  rfl
theorem eqv_ints : ∀ l : List Int, PyData.eqvAll (l.map .int) (l.map .int) = true
  | [] => rfl
  | i :: l => by
    show ((i == i) && PyData.eqvAll (l.map .int) (l.map .int)) = true
    rw [eqv_ints l]
    simp
section
variable {K : PySem.W.Frag}
theorem oD_dp {H : Hp} (o : Option Int) : Dp K H (oV o) (oD o) := by
  cases o with
  | none => exact .non
  | some i => exact .int i
theorem row_dp {H : Hp} {q : Addr} {r : Row} (h : RowAt H q r) : Dp K H (.ref q) (rowD r) := .tup (SqT.of h) (.cons (.str _) (.cons (.str _) (.cons (.int _) (.cons (oD_dp _) (.cons (oD_dp _) .nil)))))
mutual
theorem dv_of {H : Hp} : ∀ (d : PyData) (v : V), Dp K H v d → Dv K H v d
  | .none, _, h => by cases h; exact .non
  | .bool b, _, h => by cases h; exact .bl b
  | .int i, _, h => by cases h; exact .int i
  | .str x, _, h => by cases h; exact .str x
  | .list ds, _, h => by
    cases h with
    | lst a b => exact .lst a (dvs_of ds _ b)
  | .tuple ds, _, h => by
    cases h with
    | tup a b => exact .tup a (dvs_of ds _ b)
  | .dict _, _, h => by cases h
theorem dvs_of {H : Hp} : ∀ (ds : List PyData) (vs : List V), DpAll K H vs ds → Dvs K H vs ds
  | [], _, h => by cases h; exact .nil
  | d :: ds, _, h => by
    cases h with
    | cons a b => exact .cons (dv_of d _ a) (dvs_of ds _ b)
end
end
theorem AskAt.ne {C : Addr} {H : Hp} {a D : Addr} {r : Row} {xs : List V} (h : AskAt C H a r) (hd : H D = some (.lst xs)) : a ≠ D := fun e => by
  obtain ⟨dx, z⟩ := h
  rw [e, hd] at z
  cases z
section
variable {P : Program} {w : World} {K : PySem.W.Frag} {mg : Str → Option Value} {base : Heap} {C : Addr}
theorem made_lc {R D : Addr} {rs : List Row} {H3 : Hp} {σ : L2.St} {i0 : Nat} {Qd : Hp → Prop} (hR : RowsAt H3 R rs) (ok : ∀ r ∈ rs, r.Ok) (hl : rs.length ≤ 1000) (hs : ∀ r ∈ rs, r.c.length ≤ 1000) (hD : H3 D = none) (h1 : ∀ x, ((wipe σ [i0]).set i0 (some x))[i0]? = some (some x)) (h2 : ∀ x, wipe ((wipe σ [i0]).set i0 (some x)) [i0] = wipe σ [i0])
    (done : ∀ ms H', AsksAt C H' ms rs → H' D = some (.lst (ms.map V.ref)) → Same H3 H' → Qd H') :
    ∃ W : Nat → Nat → Hp → Prop, (∃ m, W 0 m (upd H3 D (.lst []))) ∧ ∀ i m H, W i m H →
      ((Itl K R).stop i H ∧ Qd H) ∨ ((Itl K R).go i H ∧ ∃ Nx : Hp → Prop, (∀ H', Nx H' → ∃ m', m' < m ∧ W (i + 1) m' H') ∧ ∀ x H', (Itl K R).yld i H x H' → gName i0 x (wipe σ [i0]) H' fun σ2 H2 => wipe σ2 [i0] = wipe σ [i0] ∧ tYes σ2 H2 fun b H3 =>
        if b = true then tCall (spMade C) [] E0 (tCons (tVar i0) tNil) σ2 H3 fun y H4 => ∃ acc, H4 D = some (.lst acc) ∧ acc.length < sizeLine ∧ Nx (upd H4 D (.lst (acc ++ [y]))) else Nx H3) := by
  obtain ⟨ps, ha, lp, hp⟩ := id hR
  refine lc_it (walk_list (K := K) (a := R) (xs := ps.map V.ref)) (fun i H' => ∃ ms : List Addr, H' D = some (.lst (ms.map V.ref)) ∧ AsksAt C H' ms (rs.take i) ∧ Same H3 H') ⟨[], upd_same, ⟨rfl, fun i p r e => (by cases e)⟩, same_new hD⟩ (fun i H' _ ⟨_, _, _, s⟩ => SqL.of (s _ _ ha)) ?_ ?_
  · rintro i x H4 H5 hi ⟨ms, hd, ⟨ml, am⟩, s4⟩ ⟨rfl, hx⟩
    have hi2 : i < ps.length := by rw [List.length_map] at hi; exact hi
    have hi3 : i < rs.length := by rw [← lp]; exact hi2
    have ex : x = .ref ps[i] := by
      rw [List.getElem?_map, List.getElem?_eq_getElem hi2] at hx
      exact (Option.some.inj hx).symm
    subst ex
    have er : rs[i]? = some rs[i] := List.getElem?_eq_getElem hi3
    have row := s4 _ _ (hp i ps[i] rs[i] (List.getElem?_eq_getElem hi2) er)
    have tk : rs.take (i + 1) = rs.take i ++ [rs[i]] := by
      rw [List.take_add_one, er]
      rfl
    rw [tk]
    have mr : rs[i] ∈ rs := List.getElem_mem hi3
    have okr := ok _ mr
    have hsr := hs _ mr
    have mli : ms.length = i := by rw [ml, List.length_take]; omega
    generalize rs[i] = r at row okr hsr ⊢
    refine ⟨h2 _, yes_go ⟨_, h1 _, ps[i], r, rfl, row, okr, hsr, fun x H6 hx s6 ask => ⟨_, s6 _ _ hd, ?_, ms ++ [x], by rw [upd_same, List.map_append]; rfl, ⟨?_, ?_⟩, fun b o e => by rw [upd_ne (ne_of_none e hD)]; exact s6 _ _ (s4 _ _ e)⟩⟩⟩
    · rw [List.length_map]
      exact Nat.lt_of_le_of_lt (show _ ≤ 1000 by omega) (by decide)
    · rw [List.length_append, List.length_append, ml]
      rfl
    · intro j q r' e1 e2
      have hd6 := s6 _ _ hd
      have keep : ∀ {q r'}, AskAt C _ q r' → AskAt C (upd _ D (.lst (ms.map V.ref ++ [V.ref x]))) q r' := fun {q r'} z => by
        obtain ⟨dx, h⟩ := id z
        exact ⟨dx, by rw [upd_ne (z.ne hd6)]; exact h⟩
      by_cases hj : j < ms.length
      · rw [List.getElem?_append_left hj] at e1
        rw [List.getElem?_append_left (by omega)] at e2
        exact keep ((am j q r' e1 e2).mono s6)
      · rw [List.getElem?_append_right (by omega)] at e1 e2
        have hj0 : j - ms.length = 0 := by
          cases hz : j - ms.length with
          | zero => rfl
          | succ m => rw [hz] at e1; cases e1
        rw [hj0] at e1
        rw [show j - (rs.take i).length = 0 by omega] at e2
        cases e1
        cases e2
        exact keep ask
  · rintro H4 ⟨ms, hd, am, s4⟩
    rw [List.length_map, lp, List.take_of_length_le (Nat.le_refl _)] at am
    exact done ms H4 am hd s4
theorem ne_self {x : V} : V.bl (!decide (x = x)) = V.bl false := by rw [decide_eq_true rfl]; rfl
theorem ask_mono {H H' : Hp} {ms : List Addr} {rs : List Row} (s : Same H H') (h : AsksAt C H ms rs) : AsksAt C H' ms rs := ⟨h.1, fun i p r e1 e2 => (h.2 i p r e1 e2).mono s⟩
theorem call_reprK {X : Cx} (K : PySem.W.Frag) (hg : X.A.guards = some []) (hu : X.A.units + 64 < cLine) (hb : ModsD X.base) (h : X.K = K := by rfl) : CallR X (.builtin "repr") (rRepr K) := by
  subst h
  exact call_reprD hg hu hb
end
def rLenK (K : PySem.W.Frag) : List V → Hp → VK → Prop := fun xs H Q => ∃ x n, xs = [x] ∧ LenV K x H n ∧ Q (.int n) H
theorem call_lenK {X : Cx} (K : PySem.W.Frag) (h : X.K = K := by rfl) : CallR X (.builtin "len") (rLenK K) := by subst h; exact call_len
def rTupOf (K : PySem.W.Frag) : List V → Hp → VK → Prop := fun xs H Q => ∃ p ys, xs = [.ref p] ∧ ((SqL K H p ys ∧ ∀ l, H l = none → Q (.ref l) (upd H l (.tup ys))) ∨ (SqT K H p ys ∧ Q (.ref p) H))
theorem call_tupK {X : Cx} (K : PySem.W.Frag) (h : X.K = K := by rfl) : CallR X (.type "tuple") (rTupOf K) := by subst h; exact call_tuple_of
end K37
end

section
set_option Elab.async false
set_option linter.all false
set_option maxRecDepth 100000
set_option maxHeartbeats 4000000
/-! what an order must be -/
namespace K37
open PySem PySem.Spec L2 KZ
def allInts : List PyData → Option (List Int)
  | [] => some []
  | .int i :: r => (allInts r).map (i :: ·)
  | _ => none
theorem all_ints : ∀ ds : List PyData, (ds.map isInt).all id = (allInts ds).isSome
  | [] => rfl
  | d :: r => by
    have ih := all_ints r
    rw [List.map_cons, List.all_cons, ih]
    cases d <;> first | rfl | skip
    show (true && (allInts r).isSome) = ((allInts r).map _).isSome
    rw [Bool.true_and, Option.isSome_map]
theorem ints_of {K : PySem.W.Frag} {H : Hp} : ∀ {ds : List PyData} {ns : List Int} {xs : List V}, allInts ds = some ns → Dvs K H xs ds → xs = ns.map V.int
  | [], _, _, e, h => by
    cases h
    cases e
    rfl
  | d :: r, ns, xs, e, h => by
    cases h with
    | cons a b =>
      cases d <;> first | cases e | skip
      obtain ⟨l, e1, rfl⟩ := Option.map_eq_some_iff.mp (show (allInts r).map _ = some ns from e)
      cases a
      rw [ints_of e1 b]
      rfl
theorem allInts_ints : ∀ ns : List Int, allInts (ns.map PyData.int) = some ns
  | [] => rfl
  | i :: r => by
    show (allInts (r.map PyData.int)).map (i :: ·) = some (i :: r)
    rw [allInts_ints r]
    rfl
theorem ints_eq : ∀ {ds : List PyData} {ns : List Int}, allInts ds = some ns → ds = ns.map PyData.int
  | [], _, e => by cases e; rfl
  | d :: r, ns, e => by
    cases d <;> first | cases e | skip
    obtain ⟨l, e1, rfl⟩ := Option.map_eq_some_iff.mp (show (allInts r).map _ = some ns from e)
    rw [ints_eq e1]
    rfl
theorem eqv_int2 : ∀ a b : List Int, PyData.eqvAll (a.map .int) (b.map .int) = decide (a = b)
  | [], [] => rfl
  | [], _ :: _ => rfl
  | _ :: _, [] => rfl
  | i :: a, j :: b => by
    show ((i == j) && PyData.eqvAll (a.map .int) (b.map .int)) = _
    rw [eqv_int2 a b, Bool.eq_iff_iff, Bool.and_eq_true, decide_eq_true_iff, decide_eq_true_iff, beq_iff_eq, List.cons.injEq]
def natsI (l : List Nat) : List Int := l.map fun (i : Nat) => (i : Int)
/-- the parts in an order that d tells, if it tells each of them once -/
def partsIn (rs : List Row) (d : PyData) : Option (List Nat) := match d with
  | .tuple ds => (match allInts ds with
    | none => none
    | some ns => if decide (PySem.W.sortI ns = natsI (partsOf rs)) = true then some (ns.map Int.toNat) else none)
  | _ => none
def lenD : PyData → Nat
  | .tuple ds => ds.length
  | .list ds => ds.length
  | _ => 0
theorem partsIn_perm {rs : List Row} {d : PyData} {o : List Nat} (h : partsIn rs d = some o) : d = .tuple ((natsI o).map PyData.int) ∧ o.Perm (partsOf rs) := by
  unfold partsIn at h
  cases d with
  | tuple ds =>
    dsimp only at h
    cases hA : allInts ds with
    | none => rw [hA] at h; cases h
    | some ns =>
      rw [hA] at h
      dsimp only at h
      cases c : decide (PySem.W.sortI ns = natsI (partsOf rs)) with
      | false => rw [c] at h; cases h
      | true =>
        rw [c, if_pos rfl] at h
        obtain rfl := Option.some.inj h
        have e := of_decide_eq_true c
        have pm : ns.Perm (natsI (partsOf rs)) := by rw [← e]; exact (PySem.W.sortI_perm ns).symm
        have nn : natsI (ns.map Int.toNat) = ns := by
          unfold natsI
          rw [List.map_map]
          refine (List.map_congr_left (g := id) fun x m => ?_).trans (List.map_id ns)
          obtain ⟨k, _, rfl⟩ := List.mem_map.mp (pm.mem_iff.mp m)
          rfl
        refine ⟨by rw [nn, ints_eq hA], ?_⟩
        have := pm.map Int.toNat
        refine this.trans ?_
        unfold natsI
        rw [List.map_map]
        exact List.Perm.of_eq ((List.map_congr_left (g := id) fun x m => rfl).trans (List.map_id _))
  | _ => cases h
def ansB (rs : List Row) : Option Int → List Nat → Bool
  | _, [] => true
  | l, i :: o => match rs[i]? with
    | none => false
    | some r => if r.g = false then ansB rs (some (i : Int)) o else (decide (r.t = l) && ansB rs l o)
theorem ansB_cons {rs : List Row} {l : Option Int} {i : Nat} {o : List Nat} {r : Row} (h : rs[i]? = some r) : ansB rs l (i :: o) = if r.g = false then ansB rs (some (i : Int)) o else (decide (r.t = l) && ansB rs l o) := by
  rw [ansB, h]
def alongB (rs : List Row) : Option Nat → List Nat → Bool
  | _, [] => true
  | none, i :: o => alongB rs (some i) o
  | some j, i :: o => match rs[i]?, rs[j]? with
    | some r, some s => if ahead r s = true then false else alongB rs (if s.b < r.b then some i else some j) o
    | _, _ => false
theorem alongB_cons {rs : List Row} {j i : Nat} {o : List Nat} {r s : Row} (h : rs[i]? = some r) (h' : rs[j]? = some s) : alongB rs (some j) (i :: o) = if ahead r s = true then false else alongB rs (if s.b < r.b then some i else some j) o := by
  rw [alongB, h, h']
/-- whether the asks of rs have this order -/
def orderB (rs : List Row) (d : PyData) : Bool := match partsIn rs d with
  | none => false
  | some o => ansB rs none o && alongB rs none o
end K37
end

section
set_option Elab.async false
set_option linter.all false
set_option maxRecDepth 100000
set_option maxHeartbeats 4000000
/-! is_within, is_same; orders and quarrels -/
namespace K37
open PySem L2 KZ
abbrev sWithin : Stmt := top 3
abbrev sSame : Stmt := top 26
abbrev sOrdI : Stmt := mem 23 0
abbrev sQuaI : Stmt := mem 24 0
theorem call_isDK {X : Cx} {c : String} (K : PySem.W.Frag) (hc : c ∈ clsL := by decide) (h : X.K = K := by rfl) : CallR X (.builtin "isinstance") (rIsD K c) := by
  subst h
  exact call_isD hc
/-- told is none, a text or an int -/
def sameS (d : PyData) : V → Bool
  | .non => (match d with
    | .none => true
    | _ => false)
  | .str x => (match d with
    | .str y => decide (y = x)
    | _ => false)
  | .int i => (match d with
    | .int j => decide (j = i)
    | _ => false)
  | _ => false
def plainV : V → Bool
  | .non => true
  | .str _ => true
  | .int _ => true
  | _ => false
def spSame (K : PySem.W.Frag) : Sp := fun vs H Q _ => ∃ v d u, vs = [v, u] ∧ Dv K H v d ∧ plainV u = true ∧ Q (.bl (sameS d u)) H
section
variable {P : Program} {w : World} {K : PySem.W.Frag} {mg : Str → Option Value} {base : Heap} {fI : Addr} {dI : FuncData}
theorem scWithin : FnScope ["value", "least", "most"] ["value", "least", "most"] (defScope sWithin) := ⟨rfl, rfl, rfl, by decide +kernel, rfl, by decide +kernel, by decide +kernel⟩
theorem ok_within {f : Addr} {fd : FuncData} (F : Fun K "is_within" "is_within" sWithin f fd) (T : B0 mg) (gI : mg "is_integer" = some (.ref fI)) (FI : Fun K "is_integer" "is_integer" sIsInt fI dI) (bI : Binds K dI ["value"] []) : FnOk P w K mg base CX0 2 f fd ["value", "least", "most"] (spWithin K) := by
  have GI : FnOk P w K mg base CX0 1 fI dI ["value"] (spIsInt K) := ok_is_integer FI T
  refine F.ok scWithin (fun vs H Q E h => ?_) (fun cdv A outer s H vs Q E hr h => ?_)
  · obtain ⟨v, d, a, b, rfl, _⟩ := h
    rfl
  · obtain ⟨v, d, a, b, rfl, hd, q⟩ := h
    have hr1 : Room 1 _ := hr.mono (by decide)
    refine ⟨_, (pss_one (ps_ret (pe_and (pe_call GI hr1 (by rfl) gI FI.kp bI .nil pass0 (pa_cons (pv 0) pa_nil)) (pe_one (pe_chain op_le op_le (pv 1) (pv 0) (pv 2)))))), ?_⟩
    refine ⟨v, rfl, v, d, rfl, hd, _, rfl, ?_⟩
    cases d with
    | int i =>
      cases hd
      refine iteT ⟨_, rfl, _, rfl, a, i, rfl, rfl, decide (a ≤ i), rfl, ?_⟩
      rw [show within a b (.int i) = (decide (a ≤ i) && decide (i ≤ b)) from rfl] at q
      cases c : decide (a ≤ i) with
      | true =>
        rw [c] at q
        exact iteT' ⟨_, rfl, i, b, rfl, rfl, q⟩
      | false =>
        rw [c] at q
        exact iteF' q
    | _ => exact iteF q
theorem scSame : FnScope ["value", "told", "at"] ["value", "told"] (defScope sSame) := ⟨rfl, rfl, rfl, by decide +kernel, rfl, by decide +kernel, by decide +kernel⟩
theorem plain_dv {H : Hp} {u : V} (h : plainV u = true) : ∃ e, Dv K H u e ∧ isT "tuple" e = false ∧ ((u = .non ∧ e = .none) ∨ (∃ x, u = .str x ∧ e = .str x) ∨ ∃ i, u = .int i ∧ e = .int i) := by
  cases u with
  | non => exact ⟨_, .non, rfl, .inl ⟨rfl, rfl⟩⟩
  | int i => exact ⟨_, .int i, rfl, .inr (.inr ⟨_, rfl, rfl⟩)⟩
  | str x => exact ⟨_, .str x, rfl, .inr (.inl ⟨_, rfl, rfl⟩)⟩
  | _ => cases h
theorem ok_same {f : Addr} {fd : FuncData} (F : Fun K "is_same" "is_same" sSame f fd) (T : B0 mg) (gI : mg "is_integer" = some (.ref fI)) (FI : Fun K "is_integer" "is_integer" sIsInt fI dI) (bI : Binds K dI ["value"] []) : FnOk P w K mg base CX0 2 f fd ["value", "told"] (spSame K) := by
  have GI : FnOk P w K mg base CX0 1 fI dI ["value"] (spIsInt K) := ok_is_integer FI T
  refine F.ok scSame (fun vs H Q E h => ?_) (fun cdv A outer s H vs Q E hr h => ?_)
  · obtain ⟨v, d, u, rfl, _⟩ := h
    rfl
  · obtain ⟨v, d, u, rfl, hd, pu, q⟩ := h
    have hr1 : Room 1 _ := hr.mono (by decide)
    refine ⟨_, (pss_cons (ps_if (pt_val (pe_callB (call_isDK K (c := "tuple")) (by rfl) T.isi (by decide +kernel) (pa_cons (pv 1) (pa_cons (pe_bltn (v := .ty "tuple") (by rfl) T.tuple (by decide +kernel) rfl) pa_nil))))
(pss_cons ps_never (pss_one ps_never))
pss_nil)
(pss_cons (ps_if (pt_cmpR op_isN (pv 1) pe_non (nomark _))
(pss_one (ps_ret (pe_cmpR op_isN (pv 0) pe_non (nomark _))))
pss_nil)
(pss_cons (ps_if (pt_val (pe_callB (call_isDK K (c := "str")) (by rfl) T.isi (by decide +kernel) (pa_cons (pv 1) (pa_cons (pe_bltn (v := .ty "str") (by rfl) T.str (by decide +kernel) rfl) pa_nil))))
(pss_one (ps_ret (pe_and (pe_callB (call_isDK K (c := "str")) (by rfl) T.isi (by decide +kernel) (pa_cons (pv 0) (pa_cons (pe_bltn (v := .ty "str") (by rfl) T.str (by decide +kernel) rfl) pa_nil))) (pe_one (pe_cmpR op_eq (pv 0) (pv 1) (nomark _))))))
pss_nil)
(pss_one (ps_ret (pe_and (pe_call GI hr1 (by rfl) gI FI.kp bI .nil pass0 (pa_cons (pv 0) pa_nil)) (pe_one (pe_cmpR op_eq (pv 0) (pv 1) (nomark _))))))))), ?_⟩
    obtain ⟨e, he, nt, h⟩ := plain_dv (K := K) (H := H) pu
    refine ⟨u, rfl, u, e, rfl, he, _, rfl, ?_⟩
    rw [nt]
    refine iteF' ?_
    rcases h with ⟨rfl, rfl⟩ | ⟨x, rfl, rfl⟩ | ⟨i, rfl, rfl⟩
    · refine ⟨_, rfl, rfl, true, rfl, iteT' ⟨v, rfl, rfl, ?_⟩⟩
      have e : decide (v = V.non) = sameS d .non := by
        cases hd <;> first | rfl | exact decide_eq_false fun z => nomatch z
      rw [e]
      exact q
    · refine ⟨_, rfl, rfl, false, rfl, iteF' ⟨_, rfl, _, .str x, rfl, he, true, rfl, iteT' ⟨v, rfl, v, d, rfl, hd, isT "str" d, rfl, ?_⟩⟩⟩
      cases d with
      | str y =>
        cases hd
        refine iteT' ⟨_, rfl, _, rfl, rfl, ?_⟩
        have e : decide (V.str y = V.str x) = sameS (.str y) (.str x) := decide_eq_decide.mpr ⟨V.str.inj, fun z => by rw [z]⟩
        rw [e]
        exact q
      | _ => exact iteF' q
    · refine ⟨_, rfl, rfl, false, rfl, iteF' ⟨_, rfl, _, .int i, rfl, he, false, rfl, iteF' ⟨v, rfl, v, d, rfl, hd, isInt d, rfl, ?_⟩⟩⟩
      cases d with
      | int y =>
        cases hd
        refine iteT' ⟨_, rfl, _, rfl, rfl, ?_⟩
        have e : decide (V.int y = V.int i) = sameS (.int y) (.int i) := decide_eq_decide.mpr ⟨V.int.inj, fun z => by rw [z]⟩
        rw [e]
        exact q
      | _ => exact iteF' q
end
/-- what can be copied: it lies apart from what is frozen of dicts -/
def Cpb (K : PySem.W.Frag) (H : Hp) (v : V) (d : PyData) : Prop := Cp 1 d ∧ ∃ G, Same G H ∧ NoFrz G ∧ Dv K G v d
theorem Cpb.mono {K : PySem.W.Frag} {H H' : Hp} {v : V} {d : PyData} (s : Same H H') (h : Cpb K H v d) : Cpb K H' v d := by
  obtain ⟨c, G, g1, g2, g3⟩ := h
  exact ⟨c, G, g1.trans s, g2, g3⟩
theorem Cpb.dv {K : PySem.W.Frag} {H : Hp} {v : V} {d : PyData} (h : Cpb K H v d) : Dv K H v d := by
  obtain ⟨c, G, g1, g2, g3⟩ := h
  exact Dv.mono g1 g3
/-- the class Order -/
structure OrdC (K : PySem.W.Frag) (mg : Str → Option Value) (C : Addr) : Prop where
  mg : mg "Order" = some (.ref C)
  cl : Cls K C
  ni : NoAttr K C "indexes"
  ty : ∀ (H : Hp) (a dx : Addr) (fs : List (Str × V)), H a = some (.ins C dx fs) → TyOf K H (.ref a) (.ref C)
  me : PySem.W.kitOne K (.ref C) (.ref C) = some true
  no : ∀ T ∈ ["NoneType", "bool", "int", "str", "list", "tuple", "dict"], PySem.W.kitOne K (.type T) (.ref C) = some false
/-- the class Quarrel -/
structure QuaC (K : PySem.W.Frag) (mg : Str → Option Value) (C CO : Addr) : Prop where
  mg : mg "Quarrel" = some (.ref C)
  cl : Cls K C
  nw : NoAttr K C "word"
  n1 : NoAttr K C "one"
  n2 : NoAttr K C "other"
  ty : ∀ (H : Hp) (a dx : Addr) (fs : List (Str × V)), H a = some (.ins C dx fs) → TyOf K H (.ref a) (.ref C)
  me : PySem.W.kitOne K (.ref C) (.ref C) = some true
  noO : PySem.W.kitOne K (.ref C) (.ref CO) = some false
  no : ∀ T ∈ ["NoneType", "bool", "int", "str", "list", "tuple", "dict"], PySem.W.kitOne K (.type T) (.ref C) = some false
def OrdAt (K : PySem.W.Frag) (C : Addr) (H : Hp) (a : Addr) (d : PyData) : Prop := ∃ dx v, H a = some (.ins C dx [("indexes", v)]) ∧ Dv K H v d
def QuaAt (K : PySem.W.Frag) (C : Addr) (H : Hp) (a : Addr) (d e g : PyData) : Prop := ∃ dx v u x, H a = some (.ins C dx [("word", v), ("one", u), ("other", x)]) ∧ Dv K H v d ∧ Dv K H u e ∧ Dv K H x g
theorem OrdAt.mono {K : PySem.W.Frag} {C : Addr} {H H' : Hp} {a : Addr} {d : PyData} (s : Same H H') (h : OrdAt K C H a d) : OrdAt K C H' a d := by
  obtain ⟨dx, v, h1, h2⟩ := h
  exact ⟨dx, v, s _ _ h1, Dv.mono s h2⟩
theorem QuaAt.mono {K : PySem.W.Frag} {C : Addr} {H H' : Hp} {a : Addr} {d e g : PyData} (s : Same H H') (h : QuaAt K C H a d e g) : QuaAt K C H' a d e g := by
  obtain ⟨dx, v, u, x, h1, h2, h3, h4⟩ := h
  exact ⟨dx, v, u, x, s _ _ h1, Dv.mono s h2, Dv.mono s h3, Dv.mono s h4⟩
/-- H' holds all of H but what stood at a -/
def But (a : Addr) (H H' : Hp) : Prop := ∀ b o, b ≠ a → H b = some o → H' b = some o
def spOrdI (K : PySem.W.Frag) (C : Addr) : Sp := fun vs H Q _ => ∃ a dx v d G, vs = [.ref a, v] ∧ H a = some (.ins C dx []) ∧ Cp 1 d ∧ Same G H ∧ NoFrz G ∧ G a = none ∧ Dv K G v d ∧ ∀ H', But a H H' → OrdAt K C H' a d → Q .non H'
def spQuaI (K : PySem.W.Frag) (C : Addr) : Sp := fun vs H Q _ => ∃ a dx v d u e x g G, vs = [.ref a, v, u, x] ∧ H a = some (.ins C dx []) ∧ Cp 1 d ∧ Cp 1 e ∧ Cp 1 g ∧ Same G H ∧ NoFrz G ∧ G a = none ∧ Dv K G v d ∧ Dv K G u e ∧ Dv K G x g ∧ ∀ H', But a H H' → QuaAt K C H' a d e g → Q .non H'
section
variable {P : Program} {w : World} {K : PySem.W.Frag} {mg : Str → Option Value} {base : Heap} {fC C CO : Addr} {dC : FuncData}
theorem scOrdI : FnScope ["self", "indexes"] ["self", "indexes"] (defScope sOrdI) := ⟨rfl, rfl, rfl, by decide +kernel, rfl, by decide +kernel, by decide +kernel⟩
theorem ok_ordI {f : Addr} {fd : FuncData} {q : Str} (F : Fun K "__init__" q sOrdI f fd) (A : OrdC K mg C) (T : B0 mg) (gC : mg "copied" = some (.ref fC)) (FC : Fun K "copied" "copied" sCopied fC dC) (bC : Binds K dC ["value"] []) : FnOk P w K mg base CX0 3 f fd ["self", "indexes"] (spOrdI K C) := by
  have GC : FnOk P w K mg base CX0 2 fC dC ["value"] (spCopied 1 K) := ok_copied FC T gC bC 1
  refine F.ok scOrdI (fun vs H Q E h => ?_) (fun cdv A' outer s H vs Q E hr h => ?_)
  · obtain ⟨a, dx, v, d, G, rfl, _⟩ := h
    rfl
  · obtain ⟨a, dx, v, d, G, rfl, ha, c, g1, g2, ga, g3, q⟩ := h
    refine ⟨_, (pss_one (ps_fld (pv 0) (pe_call GC hr (by rfl) gC FC.kp bC .nil pass0 (pa_cons (pv 1) pa_nil)) rfl)), ?_⟩
    refine ⟨v, rfl, v, d, G, rfl, c, g1, g2, g3, fun v' G' H' e1 e2 e3 e4 e5 e6 => ?_⟩
    have ga' : G' a = none := e3 a (by rw [ha]; exact fun z => nomatch z) ga
    refine ⟨_, rfl, a, C, dx, [], rfl, e5 _ _ ha, A.cl, A.ni, (by decide), ?_⟩
    refine q _ (fun b o hb e => by rw [upd_ne hb]; exact e5 _ _ e) ⟨dx, v', upd_same, Dv.mono (fun b o e => ?_) e6⟩
    rw [upd_ne (ne_of_none e ga')]
    exact e4 _ _ e
theorem scQuaI : FnScope ["self", "word", "one", "other"] ["self", "word", "one", "other"] (defScope sQuaI) := ⟨rfl, rfl, rfl, by decide +kernel, rfl, by decide +kernel, by decide +kernel⟩
theorem ok_quaI {f : Addr} {fd : FuncData} {q : Str} (F : Fun K "__init__" q sQuaI f fd) (A : QuaC K mg C CO) (T : B0 mg) (gC : mg "copied" = some (.ref fC)) (FC : Fun K "copied" "copied" sCopied fC dC) (bC : Binds K dC ["value"] []) : FnOk P w K mg base CX0 3 f fd ["self", "word", "one", "other"] (spQuaI K C) := by
  have GC : FnOk P w K mg base CX0 2 fC dC ["value"] (spCopied 1 K) := ok_copied FC T gC bC 1
  refine F.ok scQuaI (fun vs H Q E h => ?_) (fun cdv A' outer s H vs Q E hr h => ?_)
  · obtain ⟨a, dx, v, d, u, e, x, g, G, rfl, _⟩ := h
    rfl
  · obtain ⟨a, dx, v, d, u, e, x, g, G, rfl, ha, c1, c2, c3, g1, g2, ga, g3, g4, g5, q⟩ := h
    refine ⟨_, (pss_cons (ps_fld (pv 0) (pe_call GC hr (by rfl) gC FC.kp bC .nil pass0 (pa_cons (pv 1) pa_nil)) rfl)
(pss_cons (ps_fld (pv 0) (pe_call GC hr (by rfl) gC FC.kp bC .nil pass0 (pa_cons (pv 2) pa_nil)) rfl)
(pss_one (ps_fld (pv 0) (pe_call GC hr (by rfl) gC FC.kp bC .nil pass0 (pa_cons (pv 3) pa_nil)) rfl)))), ?_⟩
    have step : ∀ {G1 H1 : Hp} {v1 : V} {d1 : PyData} {fs : List (Str × V)} {f1 : Str} {Qn : VK}, Same G1 H1 → NoFrz G1 → G1 a = none → H1 a = some (.ins C dx fs) → Cp 1 d1 → Dv K G1 v1 d1 →
        (∀ v' G2 H', H' a = some (.ins C dx fs) → Same G1 G2 → NoFrz G2 → G2 a = none → Same G2 (upd H' a (.ins C dx (putF f1 v' fs))) → But a H1 (upd H' a (.ins C dx (putF f1 v' fs))) → Dv K G2 v' d1 → Qn v' H') → spCopied 1 K [v1] H1 Qn E0 := by
      intro G1 H1 v1 d1 fs f1 Qn s1 nf ga ha cp dv k
      refine ⟨v1, d1, G1, rfl, cp, s1, nf, dv, fun v' G' H' e1 e2 e3 e4 e5 e6 => ?_⟩
      have ga' : G' a = none := e3 a (by rw [ha]; exact fun z => nomatch z) ga
      refine k v' G' _ (e5 _ _ ha) e1 e2 ga' (fun b o e => ?_) (fun b o hb e => by rw [upd_ne hb]; exact e5 _ _ e) e6
      rw [upd_ne (ne_of_none e ga')]
      exact e4 _ _ e
    refine ⟨v, rfl, step (f1 := "word") g1 g2 ga ha c1 g3 fun v' G2 H2 f0 f1 f2 f3 f4 f5 f7 => ⟨_, rfl, a, C, dx, _, rfl, f0, A.cl, A.nw, by decide, ?_⟩⟩
    refine ⟨u, rfl, step (f1 := "one") f4 f2 f3 upd_same c2 (Dv.mono f1 g4) fun u' G3 H3 h0 h1 h2 h3 h4 h5 h7 => ⟨_, rfl, a, C, dx, _, rfl, h0, A.cl, A.n1, (by show 1 < 1000; decide), ?_⟩⟩
    refine ⟨x, rfl, step (f1 := "other") h4 h2 h3 upd_same c3 (Dv.mono h1 (Dv.mono f1 g5)) fun x' G4 H4 k0 k1 k2 k3 k4 k5 k7 => ⟨_, rfl, a, C, dx, _, rfl, k0, A.cl, A.n2, (by show 2 < 1000; decide), ?_⟩⟩
    have m3 := k1.trans k4
    have m2 := h1.trans m3
    exact q _ (fun b o hb e => k5 b o hb (h5 b o hb (f5 b o hb e))) ⟨dx, v', u', x', upd_same, Dv.mono m2 f7, Dv.mono m3 h7, Dv.mono k4 k7⟩
end
end K37
end

section
set_option Elab.async false
set_option linter.all false
set_option maxRecDepth 100000
set_option maxHeartbeats 4000000
/-! orders that are shown -/
namespace K37
open PySem L2 KZ
abbrev sArePs : Stmt := top 29
abbrev sInO : Stmt := top 30
abbrev sAns : Stmt := top 31
abbrev sAlong : Stmt := top 32
abbrev sFut : Stmt := top 33
def spArePs (K : PySem.W.Frag) (C : Addr) : Sp := fun vs H Q _ => ∃ a rs v d, vs = [.ref a, v] ∧ Hist K C H a rs ∧ rs.length ≤ 1000 ∧ Dv K H v d ∧ lenD d ≤ 2000 ∧ ∀ H', Same H H' → Q (.bl (partsIn rs d).isSome) H'
def spAns (K : PySem.W.Frag) (C : Addr) : Sp := fun vs H Q _ => ∃ a rs t o, vs = [.ref a, .ref t] ∧ Hist K C H a rs ∧ SqT K H t (nats o) ∧ (∀ i ∈ o, i < rs.length) ∧ Q (.bl (ansB rs none o)) H
def spAlong (K : PySem.W.Frag) (C : Addr) : Sp := fun vs H Q _ => ∃ a rs t o, vs = [.ref a, .ref t] ∧ Hist K C H a rs ∧ SqT K H t (nats o) ∧ (∀ i ∈ o, i < rs.length) ∧ Q (.bl (alongB rs none o)) H
def spInO (K : PySem.W.Frag) (C : Addr) : Sp := fun vs H Q _ => ∃ a rs t o, vs = [.ref a, .ref t] ∧ Hist K C H a rs ∧ SqT K H t (nats o) ∧ (∀ i ∈ o, i < rs.length) ∧ Q (.bl (ansB rs none o && alongB rs none o)) H
section
variable {P : Program} {w : World} {K : PySem.W.Frag} {mg : Str → Option Value} {base : Heap} {C fI fP fA : Addr} {dI dP dA : FuncData}
theorem scArePs : FnScope ["asks", "value", "at"] ["asks", "value"] (defScope sArePs) := ⟨rfl, rfl, rfl, by decide +kernel, rfl, by decide +kernel, by decide +kernel⟩
theorem ok_areps {f : Addr} {fd : FuncData} (F : Fun K "are_parts" "are_parts" sArePs f fd) (T : B1 mg) (gI : mg "is_integer" = some (.ref fI)) (FI : Fun K "is_integer" "is_integer" sIsInt fI dI) (bI : Binds K dI ["value"] []) (parts : Cal P w K mg base "parts_of" 2 ["asks"] (spParts K C)) : FnOk P w K mg base CX0 3 f fd ["asks", "value"] (spArePs K C) := by
  have GI : FnOk P w K mg base CX0 1 fI dI ["value"] (spIsInt K) := ok_is_integer FI T.toB0
  obtain ⟨fP, dP, gP, GP, kP, bP⟩ := parts.ex
  refine F.ok scArePs (fun vs H Q E h => ?_) (fun cdv A' outer s H vs Q E hr h => ?_)
  · obtain ⟨a, rs, v, d, rfl, _⟩ := h
    rfl
  · obtain ⟨a, rs, v, d, rfl, hh, hl, hd, ld, q⟩ := h
    have hr2 : Room 2 _ := hr
    have hr1 : Room 1 _ := hr.mono (by decide)
    refine ⟨_, (pss_cons (ps_if (PW.pt (pw_or (pt_not (pt_val (pe_callB (call_isDK K (c := "tuple")) (by rfl) T.isi (by decide +kernel) (pa_cons (pv 1) (pa_cons (pe_bltn (v := .ty "tuple") (by rfl) T.tuple (by decide +kernel) rfl) pa_nil))))) (pw_or1 (pt_not (pt_val (pe_callB (cr_all rfl) (by rfl) T.all (by decide +kernel) (pa_cons (pe_lc (own := [("at", 2)]) (g := gName 2) (tt := tYes) (by rfl) scArePs.nd (pi_sq (pv 1)) (blkOk_by (own := [("at", 2)]) (N := ["asks", "value", "at"]) (sc := defScope sArePs) (by decide +kernel)) (fun _ _ _ _ _ => pg_name (i := 2) scArePs.nd rfl (Or.inl rfl)) (fun _ _ _ _ _ => pts_nil) (fun _ _ _ _ _ => pe_call GI hr1 (by rfl) gI FI.kp bI .nil pass0 (pa_cons (pv 2) pa_nil))) pa_nil)))))))
(pss_one (ps_ret pe_bl))
pss_nil)
(pss_one (ps_ret (pe_cmpR (op_eqD hr.units) (pe_callB cr_sortedI (by rfl) T.sorted (by decide +kernel) (pa_cons (pe_callTy call_list_of (by rfl) T.list (by decide +kernel) (pa_cons (pv 1) pa_nil)) pa_nil)) (pe_call GP hr2 (by rfl) gP kP bP .nil pass0 (pa_cons (pv 0) pa_nil)) (nomark _))))), ?_⟩
    refine ⟨v, rfl, v, d, rfl, hd, _, rfl, ?_⟩
    cases d with
    | tuple ds =>
      cases hd with
      | @tup t xs _ hs ha =>
        refine iteF' ⟨_, rfl, t, xs, rfl, .inr hs, fun J G wk hG D hD => ?_⟩
        have lx : xs.length = ds.length := Dvs.len ha
        have ld2 : ds.length ≤ 2000 := ld
        refine lc_it wk (fun i H' => H' = upd H D (.lst ((ds.take i).map fun d => V.bl (isInt d)))) (by simp) (fun i H' _ e => hG _ (by rw [e]; exact same_new hD)) ?_ ?_
        · rintro i x H2 H3 hi rfl ⟨rfl, hx⟩
          obtain ⟨dx, e1, e2⟩ := Dvs.get ha hx
          refine ⟨rfl, yes_go ⟨x, rfl, x, dx, rfl, Dv.mono (same_new hD) e2, _, upd_same, ?_, ?_⟩⟩
          · rw [List.length_map, List.length_take]
            exact Nat.lt_of_le_of_lt (Nat.min_le_right _ _) (Nat.lt_of_le_of_lt ld2 (by decide))
          · rw [upd_upd, List.take_add_one, e1, List.map_append]
            rfl
        · rintro H2 rfl
          rw [lx, List.take_of_length_le (Nat.le_refl _)]
          have s1 : Same H (upd H D (.lst (ds.map fun d => V.bl (isInt d)))) := same_new hD
          have al : (ds.map isInt).all id = (allInts ds).isSome := all_ints ds
          refine ⟨D, ds.map isInt, rfl, SqL.of (by rw [upd_same, List.map_map]; rfl), (ds.map isInt).all id, rfl, ?_⟩
          rw [al]
          cases hA : allInts ds with
          | none =>
            refine iteT' ?_
            have := q _ s1
            unfold partsIn at this
            dsimp only at this
            rw [hA] at this
            exact this
          | some ns =>
            refine iteF' ?_
            have ex := ints_of hA ha
            subst ex
            have hs1 := sqT_mono s1 hs
            have hh1 := hh.mono s1
            generalize upd H D (.lst (ds.map fun d => V.bl (isInt d))) = H1 at s1 hs1 hh1 ⊢
            have ln : ns.length ≤ 2000 := by rw [List.length_map] at lx; omega
            refine ⟨_, rfl, t, _, rfl, .inr hs1, fun l hl => ⟨l, ns, rfl, SqL.of upd_same, fun ns' p pm pw hp => ?_⟩⟩
            have s2 := s1.trans (same_new (o := .lst (ns.map V.int)) hl)
            have s3 := s2.trans (same_new (o := .lst (ns'.map V.int)) hp)
            refine ⟨.ref a, rfl, a, rs, rfl, hh.mono s3, by omega, fun E H4 s4 _ hE => ?_⟩
            have fp := s4 _ _ (upd_same (H := upd H1 l (.lst (ns.map V.int))) (a := p) (o := .lst (ns'.map V.int)))
            have ns'e : ns' = PySem.W.sortI ns := PySem.W.eq_sortI pm pw
            refine ⟨_, _, Dp.lst (SqL.of fp) (dp_ints ns'), Dp.lst (SqL.of hE) (by rw [nats_ints]; exact dp_ints _), shaped_ints _, shaped_ints _, ?_⟩
            have := q _ (s3.trans s4)
            rw [show (partsIn rs (.tuple ds)).isSome = decide (ns' = natsI (partsOf rs)) from by
              unfold partsIn
              dsimp only
              rw [hA, ns'e]
              dsimp only
              cases decide (PySem.W.sortI ns = natsI (partsOf rs)) <;> rfl] at this
            rw [show PyData.eqv (.list (ns'.map .int)) (.list (((partsOf rs).map fun (i : Nat) => (i : Int)).map .int)) = _ from eqv_int2 ns' (natsI (partsOf rs))]
            exact this
    | _ => exact iteT' (iteT' (q _ (Same.refl H)))
theorem scAns : FnScope ["asks", "indexes", "last", "at"] ["asks", "indexes"] (defScope sAns) := ⟨rfl, rfl, rfl, by decide +kernel, rfl, by decide +kernel, by decide +kernel⟩
theorem ok_ans {f : Addr} {fd : FuncData} (F : Fun K "are_answers_right" "are_answers_right" sAns f fd) (A : AskC K mg C) : FnOk P w K mg base CX0 1 f fd ["asks", "indexes"] (spAns K C) := by
  refine F.ok scAns (fun vs H Q E h => ?_) (fun cdv A' outer s H vs Q E hr h => ?_)
  · obtain ⟨a, rs, t, o, rfl, _⟩ := h
    rfl
  · obtain ⟨a, rs, t, o, rfl, hh, ht, hi, q⟩ := h
    refine ⟨_, (pss_cons (ps_set (i := 2) scAns.nd rfl (Or.inl rfl) pe_non)
(pss_cons (ps_for PassesOwn.never rfl (pi_sq (pv 1)) (pg_name (i := 3) scAns.nd rfl (Or.inl rfl))
(pss_one (ps_if (pt_cmpR op_eq (pe_fldK K (pe_ix (ix_seqK K) (pv 0) (pv 3) (fun _ _ => rfl)) rfl) pe_str (nomark _))
(pss_one (ps_set (i := 2) scAns.nd rfl (Or.inl rfl) (pv 3)))
(pss_one (ps_if (pt_cmpR op_ne (pe_fldK K (pe_ix (ix_seqK K) (pv 0) (pv 3) (fun _ _ => rfl)) rfl) (pv 2) (nomark _))
(pss_one (ps_ret pe_bl))
pss_nil)))))
(pss_one (ps_ret pe_bl)))), ?_⟩
    refine ⟨.ref t, rfl, t, _, rfl, .inr ht, fun J G wk hG => ?_⟩
    refine for_it wk (fun k σ H' => H' = H ∧ ∃ l x3, σ = [some (.ref a), some (.ref t), some (oV l), x3] ∧ ansB rs l (o.drop k) = ansB rs none o) ⟨rfl, none, _, rfl, rfl⟩ (fun i σ H' _ e => hG _ (by rw [e.1]; exact Same.refl H)) ?_ ?_
    · rintro k x σ H1 H2 hk ⟨rfl, l, x3, rfl, e⟩ ⟨rfl, hx⟩
      have hk2 : k < o.length := by unfold nats at hk; rw [List.length_map] at hk; exact hk
      have ex : x = .int (o[k] : Nat) := by
        unfold nats at hx
        rw [List.getElem?_map, List.getElem?_eq_getElem hk2] at hx
        exact (Option.some.inj hx).symm
      subst ex
      have dk : o.drop k = o[k] :: o.drop (k + 1) := List.drop_eq_getElem_cons hk2
      rw [dk] at e
      have lo := hi _ (List.getElem_mem hk2)
      generalize o[k] = m at e lo
      have em : rs[m]? = some rs[m] := List.getElem?_eq_getElem lo
      obtain ⟨p, dx, xs, sq, ax, hp⟩ := hh.at em
      have e1 : ansB rs l (m :: o.drop (k + 1)) = if rs[m].g = false then ansB rs (some m) (o.drop (k + 1)) else (decide (rs[m].t = l) && ansB rs l (o.drop (k + 1))) := ansB_cons em
      rw [e1] at e
      generalize rs[m] = r at hp e
      refine ⟨_, rfl, _, rfl, Sq.ix sq ax ⟨p, C, dx, flds r, .str (wd r.g), rfl, hp, A.cl, A.nw, rfl, rfl, !r.g, by cases r.g <;> decide +kernel, ?_⟩⟩
      cases hg : r.g with
      | false =>
        rw [hg, if_pos rfl] at e
        exact iteT' ⟨_, rfl, rfl, some m, _, rfl, e⟩
      | true =>
        rw [hg, if_neg (by decide)] at e
        refine iteF' ⟨_, rfl, _, rfl, Sq.ix sq ax ⟨p, C, dx, flds r, oV r.t, rfl, hp, A.cl, A.nt, rfl, _, rfl, by cases r.t <;> cases l <;> rfl, !decide (r.t = l), by rw [eq_oV], ?_⟩⟩
        cases c : decide (r.t = l) with
        | false =>
          rw [c, Bool.false_and] at e
          refine iteT' ?_
          rw [← e] at q
          exact q
        | true =>
          rw [c, Bool.true_and] at e
          exact iteF' ⟨rfl, l, _, rfl, e⟩
    · rintro σ H1 ⟨rfl, l, x3, rfl, e⟩
      rw [List.drop_of_length_le (by unfold nats; rw [List.length_map]; exact Nat.le_refl _)] at e
      rw [← e] at q
      exact q
theorem scAlong : FnScope ["asks", "indexes", "latest", "at", "ask"] ["asks", "indexes"] (defScope sAlong) := ⟨rfl, rfl, rfl, by decide +kernel, rfl, by decide +kernel, by decide +kernel⟩
def nV : Option Nat → V
  | none => .non
  | some i => .int i
theorem ok_along {f : Addr} {fd : FuncData} (F : Fun K "is_along_time" "is_along_time" sAlong f fd) (A : AskC K mg C) (MA : Meth K C "is_ahead" fA) (GA : FnOk P w K mg base CX0 7 fA dA ["self", "other"] (spAheadX C)) (bA : Binds K dA ["self", "other"] []) : FnOk P w K mg base CX0 8 f fd ["asks", "indexes"] (spAlong K C) := by
  refine F.ok scAlong (fun vs H Q E h => ?_) (fun cdv A' outer s H vs Q E hr h => ?_)
  · obtain ⟨a, rs, t, o, rfl, _⟩ := h
    rfl
  · obtain ⟨a, rs, t, o, rfl, hh, ht, hi, q⟩ := h
    have hr7 : Room 7 _ := hr
    refine ⟨_, (pss_cons (ps_set (i := 2) scAlong.nd rfl (Or.inl rfl) pe_non)
(pss_cons (ps_for PassesOwn.never rfl (pi_sq (pv 1)) (pg_name (i := 3) scAlong.nd rfl (Or.inl rfl))
(pss_cons (ps_set (i := 4) scAlong.nd rfl (Or.inl rfl) (pe_ix (ix_seqK K) (pv 0) (pv 3) (fun _ _ => rfl)))
(pss_cons (ps_if (PW.pt (pw_and (pt_cmpR op_notN (pv 2) pe_non (nomark _)) (pw_and1 (pt_val (pe_meth (pv 4) A.cl MA GA hr7 bA .nil pass0 (pa_cons (pe_ix (ix_seqK K) (pv 0) (pv 2) (fun _ _ => rfl)) pa_nil))))))
(pss_one (ps_ret pe_bl))
pss_nil)
(pss_one (ps_if (PW.pt (pw_or (pt_cmpR op_isN (pv 2) pe_non (nomark _)) (pw_or1 (pt_cmpR op_gt (pe_fldK K (pv 4) rfl) (pe_fldK K (pe_ix (ix_seqK K) (pv 0) (pv 2) (fun _ _ => rfl)) rfl) (nomark _)))))
(pss_one (ps_set (i := 2) scAlong.nd rfl (Or.inl rfl) (pv 3)))
pss_nil)))))
(pss_one (ps_ret pe_bl)))), ?_⟩
    refine ⟨.ref t, rfl, t, _, rfl, .inr ht, fun J G wk hG => ?_⟩
    refine for_it wk (fun k σ H' => H' = H ∧ ∃ l x3 x4, σ = [some (.ref a), some (.ref t), some (nV l), x3, x4] ∧ (∀ j, l = some j → j < rs.length) ∧ alongB rs l (o.drop k) = alongB rs none o) ⟨rfl, none, _, _, rfl, (fun _ z => nomatch z), rfl⟩ (fun i σ H' _ e => hG _ (by rw [e.1]; exact Same.refl H)) ?_ ?_
    · rintro k x σ H1 H2 hk ⟨rfl, l, x3, x4, rfl, hl, e⟩ ⟨rfl, hx⟩
      have hk2 : k < o.length := by unfold nats at hk; rw [List.length_map] at hk; exact hk
      have ex : x = .int (o[k] : Nat) := by
        unfold nats at hx
        rw [List.getElem?_map, List.getElem?_eq_getElem hk2] at hx
        exact (Option.some.inj hx).symm
      subst ex
      have dk : o.drop k = o[k] :: o.drop (k + 1) := List.drop_eq_getElem_cons hk2
      rw [dk] at e
      have lo := hi _ (List.getElem_mem hk2)
      generalize o[k] = m at e lo
      have em : rs[m]? = some rs[m] := List.getElem?_eq_getElem lo
      obtain ⟨p, dx, xs, sq, ax, hp⟩ := hh.at em
      refine ⟨_, rfl, _, rfl, Sq.ix sq ax ?_⟩
      cases l with
      | none =>
        rw [show alongB rs none (m :: o.drop (k + 1)) = alongB rs (some m) (o.drop (k + 1)) from rfl] at e
        refine ⟨_, rfl, rfl, false, rfl, iteF' (iteF' ⟨_, rfl, rfl, true, rfl, iteT' (iteT' ?_)⟩)⟩
        exact ⟨_, rfl, rfl, some m, _, _, rfl, fun j z => (by cases z; exact lo), e⟩
      | some j =>
        have lj := hl j rfl
        have ej : rs[j]? = some rs[j] := List.getElem?_eq_getElem lj
        obtain ⟨p', dx', xs', sq', ax', hp'⟩ := hh.at ej
        have e1 : alongB rs (some j) (m :: o.drop (k + 1)) = if ahead rs[m] rs[j] = true then false else alongB rs (if rs[j].b < rs[m].b then some m else some j) (o.drop (k + 1)) := alongB_cons em ej
        rw [e1] at e
        generalize rs[m] = r at hp e
        generalize rs[j] = s at hp' e
        refine ⟨_, rfl, rfl, true, rfl, iteT' ⟨_, rfl, p, dx, flds r, rfl, hp, rfl, _, rfl, _, rfl, Sq.ix sq' ax' ?_⟩⟩
        refine ⟨p, r, p', s, rfl, ⟨dx, hp⟩, ⟨dx', hp'⟩, ahead r s, rfl, ?_⟩
        cases c : ahead r s with
        | true =>
          rw [c, if_pos rfl] at e
          rw [← e] at q
          exact iteT' q
        | false =>
          rw [c, if_neg (by decide)] at e
          refine iteF' ⟨_, rfl, rfl, false, rfl, iteF' ?_⟩
          refine ⟨_, rfl, p, C, dx, flds r, .int r.b, rfl, hp, A.cl, A.nb, rfl, _, rfl, _, rfl, Sq.ix sq' ax' ⟨p', C, dx', flds s, .int s.b, rfl, hp', A.cl, A.nb, rfl, r.b, s.b, rfl, rfl, decide (s.b < r.b), rfl, ?_⟩⟩
          cases c2 : decide (s.b < r.b) with
          | true =>
            rw [if_pos (of_decide_eq_true c2)] at e
            exact iteT' ⟨_, rfl, rfl, some m, _, _, rfl, fun j z => (by cases z; exact lo), e⟩
          | false =>
            rw [if_neg (of_decide_eq_false c2)] at e
            exact iteF' ⟨rfl, some j, _, _, rfl, hl, e⟩
    · rintro σ H1 ⟨rfl, l, x3, x4, rfl, _, e⟩
      rw [List.drop_of_length_le (by unfold nats; rw [List.length_map]; exact Nat.le_refl _)] at e
      rw [← e] at q
      exact q
theorem scInO : FnScope ["asks", "indexes"] ["asks", "indexes"] (defScope sInO) := ⟨rfl, rfl, rfl, by decide +kernel, rfl, by decide +kernel, by decide +kernel⟩
theorem ok_ino {f : Addr} {fd : FuncData} (F : Fun K "are_in_order" "are_in_order" sInO f fd) (ans : Cal P w K mg base "are_answers_right" 1 ["asks", "indexes"] (spAns K C)) (al : Cal P w K mg base "is_along_time" 8 ["asks", "indexes"] (spAlong K C)) : FnOk P w K mg base CX0 9 f fd ["asks", "indexes"] (spInO K C) := by
  obtain ⟨fAn, dAn, gAn, GAn, kAn, bAn⟩ := ans.ex
  obtain ⟨fAl, dAl, gAl, GAl, kAl, bAl⟩ := al.ex
  refine F.ok scInO (fun vs H Q E h => ?_) (fun cdv A' outer s H vs Q E hr h => ?_)
  · obtain ⟨a, rs, t, o, rfl, _⟩ := h
    rfl
  · obtain ⟨a, rs, t, o, rfl, hh, ht, hi, q⟩ := h
    have hr8 : Room 8 _ := hr
    have hr1 : Room 1 _ := hr.mono (by decide)
    refine ⟨_, (pss_one (ps_ret (pe_and (pe_call GAn hr1 (by rfl) gAn kAn bAn .nil pass0 (pa_cons (pv 0) (pa_cons (pv 1) pa_nil))) (pe_one (pe_call GAl hr8 (by rfl) gAl kAl bAl .nil pass0 (pa_cons (pv 0) (pa_cons (pv 1) pa_nil))))))), ?_⟩
    refine ⟨_, rfl, _, rfl, a, rs, t, o, rfl, hh, ht, hi, ansB rs none o, rfl, ?_⟩
    cases c : ansB rs none o with
    | false =>
      rw [c, Bool.false_and] at q
      exact iteF' q
    | true =>
      rw [c, Bool.true_and] at q
      exact iteT' ⟨_, rfl, _, rfl, a, rs, t, o, rfl, hh, ht, hi, q⟩
def futB (rs : List Row) (d e : PyData) : Bool := match d, e with
  | .int i, .int j => decide (0 ≤ i) && (decide (i < rs.length) && (match rs[i.toNat]? with
    | none => false
    | some r => decide (r.t = some j) && (match rs[j.toNat]? with
      | none => false
      | some s => ahead r s)))
  | _, _ => false
def spFut (K : PySem.W.Frag) (C : Addr) : Sp := fun vs H Q _ => ∃ a rs v d u e, vs = [.ref a, v, u] ∧ Hist K C H a rs ∧ rs.length ≤ 1000 ∧ (∀ r ∈ rs, r.Ok) ∧ firstBad rs = none ∧ Dv K H v d ∧ Dv K H u e ∧ Q (.bl (futB rs d e)) H
theorem scFut : FnScope ["asks", "one", "other"] ["asks", "one", "other"] (defScope sFut) := ⟨rfl, rfl, rfl, by decide +kernel, rfl, by decide +kernel, by decide +kernel⟩
theorem ok_fut {f : Addr} {fd : FuncData} (F : Fun K "is_future" "is_future" sFut f fd) (T : B1 mg) (A : AskC K mg C) (MA : Meth K C "is_ahead" fA) (GA : FnOk P w K mg base CX0 7 fA dA ["self", "other"] (spAheadX C)) (bA : Binds K dA ["self", "other"] [])
    (wi : Cal P w K mg base "is_within" 2 ["value", "least", "most"] (spWithin K)) (isi : Cal P w K mg base "is_integer" 1 ["value"] (spIsInt K)) : FnOk P w K mg base CX0 8 f fd ["asks", "one", "other"] (spFut K C) := by
  obtain ⟨fW, dW, gW, GW, kW, bW⟩ := wi.ex
  obtain ⟨fI, dI, gI, GI, kI, bI⟩ := isi.ex
  refine F.ok scFut (fun vs H Q E h => ?_) (fun cdv A' outer s H vs Q E hr h => ?_)
  · obtain ⟨a, rs, v, d, u, e, rfl, _⟩ := h
    rfl
  · obtain ⟨a, rs, v, d, u, e, rfl, hh, hl, ok, nb, hd, he, q⟩ := h
    have hr7 : Room 7 _ := hr
    have hr2 : Room 2 _ := hr.mono (by decide)
    have hr1 : Room 1 _ := hr.mono (by decide)
    refine ⟨_, (pss_cons (ps_if (PW.pt (pw_or (pt_not (pt_val (pe_call GW hr2 (by rfl) gW kW bW .nil pass0 (pa_cons (pv 1) (pa_cons pe_int (pa_cons (pe_op op_sub (pe_callB call_len (by rfl) T.len PySem.boot_len (pa_cons (pv 0) pa_nil)) pe_int) pa_nil)))))) (pw_or (pt_not (pt_val (pe_call GI hr1 (by rfl) gI kI bI .nil pass0 (pa_cons (pv 2) pa_nil)))) (pw_or1 (pt_cmpR op_ne (pe_fldK K (pe_ix (ix_seqK K) (pv 0) (pv 1) (fun _ _ => rfl)) rfl) (pv 2) (nomark _))))))
(pss_one (ps_ret pe_bl))
pss_nil)
(pss_one (ps_ret (pe_meth (pe_ix (ix_seqK K) (pv 0) (pv 1) (fun _ _ => rfl)) A.cl MA GA hr7 bA .nil pass0 (pa_cons (pe_ix (ix_seqK K) (pv 0) (pv 2) (fun _ _ => rfl)) pa_nil))))), ?_⟩
    obtain ⟨ps, sq, lp, _⟩ := hh.sq
    have lps : (ps.map V.ref).length = rs.length := by rw [List.length_map, lp]
    refine ⟨_, rfl, _, rfl, _, (ps.map V.ref).length, rfl, sq.len, ((ps.map V.ref).length : Nat), 1, rfl, rfl, v, d, 0, ((ps.map V.ref).length : Nat) - 1, rfl, hd, within 0 (((ps.map V.ref).length : Nat) - 1) d, rfl, ?_⟩
    rw [lps]
    have off : futB rs d e = false → Q (.bl false) H := fun z => by rw [z] at q; exact q
    cases c : within 0 ((rs.length : Int) - 1) d with
    | false =>
      refine iteT' (iteT' (off ?_))
      cases d <;> cases e <;> first | rfl | skip
      rename_i i j
      have : (decide (0 ≤ i) && decide (i ≤ (rs.length : Int) - 1)) = false := c
      show (decide (0 ≤ i) && (decide (i < (rs.length : Int)) && _)) = false
      cases c1 : decide (0 ≤ i) with
      | false => rfl
      | true =>
        rw [c1, Bool.true_and] at this
        have := of_decide_eq_false this
        rw [show decide (i < (rs.length : Int)) = false from decide_eq_false (by omega)]
        rfl
    | true =>
      refine iteF' ⟨u, rfl, u, e, rfl, he, isInt e, rfl, ?_⟩
      obtain ⟨i, rfl⟩ : ∃ i, d = .int i := by
        cases d <;> first | exact ⟨_, rfl⟩ | cases c
      cases hd
      have cc : (decide (0 ≤ i) && decide (i ≤ (rs.length : Int) - 1)) = true := c
      rw [Bool.and_eq_true] at cc
      have c1 := of_decide_eq_true cc.1
      have c2 := of_decide_eq_true cc.2
      cases ie : isInt e with
      | false =>
        refine iteT' (iteT' (off ?_))
        cases e <;> first | rfl | cases ie
      | true =>
        obtain ⟨j, rfl⟩ : ∃ j, e = .int j := by
          cases e <;> first | exact ⟨_, rfl⟩ | cases ie
        cases he
        obtain ⟨m, rfl⟩ : ∃ m : Nat, i = m := ⟨i.toNat, by omega⟩
        have lm : m < rs.length := by omega
        have em : rs[m]? = some rs[m] := List.getElem?_eq_getElem lm
        obtain ⟨p, dx, xs, sq1, ax, hp⟩ := hh.at em
        have fe : futB rs (.int (m : Int)) (.int j) = (decide (rs[m].t = some j) && (match rs[j.toNat]? with
          | none => false
          | some s => ahead rs[m] s)) := by
          unfold futB
          dsimp only
          rw [decide_eq_true c1, decide_eq_true (show (m : Int) < (rs.length : Int) by omega), Int.toNat_natCast, em]
          rfl
        rw [fe] at q
        have tl := fun t (et : rs[m].t = some t) => told_at ok nb em et
        generalize rs[m] = r at hp q tl
        refine iteF' ⟨_, rfl, _, rfl, Sq.ix sq1 ax ⟨p, C, dx, flds r, oV r.t, rfl, hp, A.cl, A.nt, rfl, _, rfl, by cases r.t <;> rfl, !decide (r.t = some j), by rw [← eq_oV]; rfl, ?_⟩⟩
        cases ct : decide (r.t = some j) with
        | false =>
          rw [ct, Bool.false_and] at q
          exact iteT' q
        | true =>
          rw [ct, Bool.true_and] at q
          obtain ⟨k, s, rfl, es, _⟩ := tl j (of_decide_eq_true ct)
          rw [Int.toNat_natCast, es] at q
          obtain ⟨p', dx', xs', sq', ax', hp'⟩ := hh.at es
          refine iteF' ⟨_, rfl, _, rfl, Sq.ix sq1 ax ⟨p, dx, flds r, rfl, hp, rfl, _, rfl, _, rfl, Sq.ix sq' ax' ?_⟩⟩
          exact ⟨p, r, p', s, rfl, ⟨dx, hp⟩, ⟨dx', hp'⟩, q⟩
end
end K37
end

section
set_option Elab.async false
set_option linter.all false
set_option maxRecDepth 100000
set_option maxHeartbeats 4000000
/-! quarrels that are shown; what shows an order -/
namespace K37
open PySem PySem.Spec L2 KZ
abbrev sLAO : Stmt := top 34
abbrev sShow : Stmt := top 28
theorem same_one {d : PyData} {k l : Option Int} (h1 : sameS d (oV k) = true) (h2 : sameS d (oV l) = true) : k = l := by
  cases k with
  | none =>
    cases l with
    | none => rfl
    | some j => cases d <;> first | (cases h1; done) | (cases h2; done)
  | some i =>
    cases l with
    | none => cases d <;> first | (cases h1; done) | (cases h2; done)
    | some j =>
      cases d with
      | int m =>
        have a := of_decide_eq_true (show decide (m = i) = true from h1)
        have b := of_decide_eq_true (show decide (m = j) = true from h2)
        rw [← a, ← b]
      | _ => cases h1
def zfilt (rs : List Row) (d : PyData) : List Zn := (zonesOf rs).filter fun z => sameS d (oV z.1)
def zone1 (rs : List Row) (d : PyData) : Option Zn := (zonesOf rs).find? fun z => sameS d (oV z.1)
theorem filt_one {α : Type} {p : α → Bool} : ∀ {l : List α}, l.Nodup → (∀ x ∈ l, ∀ y ∈ l, p x = true → p y = true → x = y) → l.filter p = (l.find? p).toList
  | [], _, _ => rfl
  | a :: l, nd, h => by
    have ⟨na, nd'⟩ := List.nodup_cons.mp nd
    rw [List.filter_cons, List.find?_cons]
    cases c : p a with
    | false =>
      rw [if_neg (by decide)]
      exact filt_one nd' fun x mx y my => h x (List.mem_cons_of_mem _ mx) y (List.mem_cons_of_mem _ my)
    | true =>
      rw [if_pos rfl]
      have : l.filter p = [] := List.filter_eq_nil_iff.mpr fun x mx hx => na (by rw [h a List.mem_cons_self x (List.mem_cons_of_mem _ mx) c hx]; exact mx)
      rw [this]
      rfl
theorem zfilt_one {rs : List Row} (ok : ∀ r ∈ rs, r.Ok) (nb : firstBad rs = none) (d : PyData) : zfilt rs d = (zone1 rs d).toList := by
  have nk := zones_keys ok nb
  refine filt_one ((List.pairwise_map.mp nk).imp fun h e => h (by rw [e])) fun x mx y my hx hy => zones_inj x y mx my (same_one hx hy)
def znD (z : Zn) : PyData := .tuple [oD z.1, .int z.2.1, .int z.2.2]
def zsD (zs : List Zn) : PyData := .list (zs.map znD)
theorem zn_dp {K : PySem.W.Frag} {H : Hp} {q : Addr} {z : Zn} (h : ZoneAt H q z) : Dp K H (.ref q) (znD z) := .tup (SqT.of h) (.cons (by cases z.1 <;> first | exact .non | exact .int _) (.cons (.int _) (.cons (.int _) .nil)))
theorem zs_dp {K : PySem.W.Frag} {H : Hp} : ∀ {us : List Addr} {zs : List Zn}, Paired (fun q z => ZoneAt H q z) us zs → DpAll K H (us.map V.ref) (zs.map znD)
  | _, _, .nil => .nil
  | _, _, .cons h r => .cons (zn_dp h) (zs_dp r)
theorem zs_shaped (o : Option Zn) : SeqAt.shaped (zsD o.toList) = true := by
  cases o with
  | none => decide +kernel
  | some z =>
    obtain ⟨k, e, b⟩ := z
    cases k <;> rfl
theorem zs_eqv (z u : Zn) : PyData.eqv (zsD [z]) (zsD [u]) = decide (z = u) := by
  obtain ⟨k, e, b⟩ := z
  obtain ⟨l, f, c⟩ := u
  show ((PyData.eqv (oD k) (oD l) && ((e == f) && ((b == c) && true))) && true) = _
  have hk : PyData.eqv (oD k) (oD l) = decide (k = l) := by
    cases k <;> cases l <;> first | rfl | skip
    rename_i i j
    show (i == j) = _
    rw [Bool.eq_iff_iff, beq_iff_eq, decide_eq_true_iff, Option.some.injEq]
  rw [hk, Bool.eq_iff_iff]
  simp only [Bool.and_eq_true, Bool.and_true, decide_eq_true_iff, beq_iff_eq, Prod.mk.injEq]
def oddsB (rs : List Row) (d e : PyData) : Bool := match zone1 rs d, zone1 rs e with
  | some z, some u => !decide (z = u) && (decide (z.2.1 < u.2.2) && decide (u.2.1 < z.2.2))
  | _, _ => false
def spLAO (K : PySem.W.Frag) (C : Addr) : Sp := fun vs H Q _ => ∃ a rs v d u e, vs = [.ref a, v, u] ∧ Hist K C H a rs ∧ rs.length ≤ 1000 ∧ (∀ r ∈ rs, r.Ok) ∧ firstBad rs = none ∧ Dv K H v d ∧ Dv K H u e ∧ ∀ H', Same H H' → Q (.bl (oddsB rs d e)) H'
section
variable {P : Program} {w : World} {K : PySem.W.Frag} {mg : Str → Option Value} {base : Heap} {C cB cT CO CQ : Addr}
theorem scLAO : FnScope ["asks", "one", "other", "ours", "row", "theirs"] ["asks", "one", "other"] (defScope sLAO) := ⟨rfl, rfl, rfl, by decide +kernel, rfl, by decide +kernel, by decide +kernel⟩
theorem ok_lao {f : Addr} {fd : FuncData} (F : Fun K "are_lots_at_odds" "are_lots_at_odds" sLAO f fd) (T : B1 mg) (same : Cal P w K mg base "is_same" 2 ["value", "told"] (spSame K)) (zones : Cal P w K mg base "zones" 8 ["asks"] (spZonesX K C)) : FnOk P w K mg base CX0 9 f fd ["asks", "one", "other"] (spLAO K C) := by
  obtain ⟨fS, dS, gS, GS, kS, bS⟩ := same.ex
  obtain ⟨fZ, dZ, gZ, GZ, kZ, bZ⟩ := zones.ex
  refine F.ok scLAO (fun vs H Q E h => ?_) (fun cdv A' outer s H vs Q E hr h => ?_)
  · obtain ⟨a, rs, v, d, u, e, rfl, _⟩ := h
    rfl
  · obtain ⟨a, rs, v, d, u, e, rfl, hh, hl, ok, nb, hd, he, q⟩ := h
    have hr8 : Room 8 _ := hr
    have hr2 : Room 2 _ := hr.mono (by decide)
    refine ⟨_, (pss_cons (ps_setLc (i := 3) (own := [("row", 4)]) (g := gName 4) (by rfl) scLAO.nd rfl rfl (sw_true rfl rfl rfl (by decide +kernel)) (pi_sq (pe_call GZ hr8 (by rfl) gZ kZ bZ .nil pass0 (pa_cons (pv 0) pa_nil))) (blkOk_by (own := [("row", 4)]) (N := ["asks", "one", "other", "ours", "row", "theirs"]) (sc := defScope sLAO) (by decide +kernel)) (fun _ _ _ _ _ => pg_name (i := 4) scLAO.nd rfl (Or.inl rfl)) (fun _ _ _ _ _ => pts_one (pt_val (pe_call GS hr2 (by rfl) gS kS bS .nil pass0 (pa_cons (pv 1) (pa_cons (pe_ix (ix_seqK K) (pv 4) pe_int (fun _ _ => rfl)) pa_nil))))) (fun _ _ _ _ _ => pv 4))
(pss_cons (ps_setLc (i := 5) (own := [("row", 4)]) (g := gName 4) (by rfl) scLAO.nd rfl rfl (sw_true rfl rfl rfl (by decide +kernel)) (pi_sq (pe_call GZ hr8 (by rfl) gZ kZ bZ .nil pass0 (pa_cons (pv 0) pa_nil))) (blkOk_by (own := [("row", 4)]) (N := ["asks", "one", "other", "ours", "row", "theirs"]) (sc := defScope sLAO) (by decide +kernel)) (fun _ _ _ _ _ => pg_name (i := 4) scLAO.nd rfl (Or.inl rfl)) (fun _ _ _ _ _ => pts_one (pt_val (pe_call GS hr2 (by rfl) gS kS bS .nil pass0 (pa_cons (pv 2) (pa_cons (pe_ix (ix_seqK K) (pv 4) pe_int (fun _ _ => rfl)) pa_nil))))) (fun _ _ _ _ _ => pv 4))
(pss_cons (ps_if (PW.pt (pw_or (pt_cmpR op_eq (pe_callB call_len (by rfl) T.len PySem.boot_len (pa_cons (pv 3) pa_nil)) pe_int (nomark _)) (pw_or (pt_cmpR op_eq (pe_callB call_len (by rfl) T.len PySem.boot_len (pa_cons (pv 5) pa_nil)) pe_int (nomark _)) (pw_or1 (pt_cmpR (op_eqD hr.units) (pv 3) (pv 5) (nomark _))))))
(pss_one (ps_ret pe_bl))
pss_nil)
(pss_one (ps_ret (pe_and (pe_cmpR op_lt (pe_ix (ix_seqK K) (pe_ix (ix_seqK K) (pv 3) pe_int (fun _ _ => rfl)) pe_int (fun _ _ => rfl)) (pe_ix (ix_seqK K) (pe_ix (ix_seqK K) (pv 5) pe_int (fun _ _ => rfl)) pe_int (fun _ _ => rfl)) (nomark _)) (pe_one (pe_cmpR op_lt (pe_ix (ix_seqK K) (pe_ix (ix_seqK K) (pv 5) pe_int (fun _ _ => rfl)) pe_int (fun _ _ => rfl)) (pe_ix (ix_seqK K) (pe_ix (ix_seqK K) (pv 3) pe_int (fun _ _ => rfl)) pe_int (fun _ _ => rfl)) (nomark _))))))))), ?_⟩
    have zl := zones_le rs
    refine ⟨_, rfl, a, rs, rfl, hh, hl, ok, nb, fun p1 H1 s1 hz1 => ?_⟩
    have hh1 := hh.mono s1
    have hd1 := Dv.mono s1 hd
    obtain ⟨qs1, hp1, lq1, hz1⟩ := hz1
    refine ⟨p1, _, rfl, .inr (SqT.of hp1), fun J G wk hG R1 hR1 => ?_⟩
    refine lc_it wk (fun k H' => ∃ us : List Addr, H' R1 = some (.lst (us.map V.ref)) ∧ Paired (fun q z => ZoneAt H' q z) us (((zonesOf rs).take k).filter fun z => sameS d (oV z.1)) ∧ Same H1 H') ⟨[], upd_same, .nil, same_new hR1⟩ (fun i H' _ ⟨_, _, _, s'⟩ => hG _ s') ?_ ?_
    · rintro k x H2 H3 hk ⟨us, fR, pu, sL⟩ ⟨rfl, hx⟩
      have hk2 : k < qs1.length := by rw [List.length_map] at hk; exact hk
      have hk3 : k < (zonesOf rs).length := by omega
      have ex : x = .ref qs1[k] := by
        rw [List.getElem?_map, List.getElem?_eq_getElem hk2] at hx
        exact (Option.some.inj hx).symm
      subst ex
      have ez : (zonesOf rs)[k]? = some (zonesOf rs)[k] := List.getElem?_eq_getElem hk3
      have tq := sL _ _ (hz1 k _ _ (List.getElem?_eq_getElem hk2) ez)
      have tk : ((zonesOf rs).take (k + 1)).filter (fun z => sameS d (oV z.1)) = ((zonesOf rs).take k).filter (fun z => sameS d (oV z.1)) ++ (if sameS d (oV (zonesOf rs)[k].1) = true then [(zonesOf rs)[k]] else []) := by
        rw [List.take_add_one, ez, List.filter_append]
        congr 1
        show List.filter _ [(zonesOf rs)[k]] = _
        rw [List.filter_cons]
        rfl
      have ul : us.length ≤ 1002 := by
        rw [Paired.length pu]
        refine Nat.le_trans (List.length_filter_le _ _) ?_
        rw [List.length_take]
        omega
      rw [tk]
      generalize (zonesOf rs)[k] = z at tq ⊢
      generalize qs1[k] = q' at tq ⊢
      have tq : H3 q' = some (.tup [oV z.1, .int z.2.1, .int z.2.2]) := tq
      refine ⟨rfl, _, rfl, _, rfl, Sq.ix (.inr (SqT.of tq)) rfl ⟨_, d, oV z.1, rfl, Dv.mono sL hd1, by cases z.1 <;> rfl, sameS d (oV z.1), rfl, ?_⟩⟩
      cases c : sameS d (oV z.1) with
      | false =>
        refine iteF' ⟨us, fR, ?_, sL⟩
        rw [if_neg (fun y => nomatch y), List.append_nil]
        exact pu
      | true =>
        have keepT : ∀ q x, H3 q = some (.tup x) → upd H3 R1 (.lst (us.map V.ref ++ [.ref q'])) q = some (.tup x) := fun q x e => by
          rw [upd_ne (fun z => by rw [z, fR] at e; cases e)]
          exact e
        refine iteT' ⟨_, rfl, _, fR, by rw [List.length_map]; exact Nat.lt_of_le_of_lt ul (by decide), us ++ [q'], by rw [upd_same, List.map_append]; rfl, ?_, fun b u e => ?_⟩
        · rw [if_pos rfl]
          exact Paired.snoc (Paired.mapP pu fun _ _ z => keepT _ _ z) (keepT _ _ tq)
        · rw [upd_ne (ne_of_none e hR1)]
          exact sL b u e
    rintro H7 ⟨us1, fR1, pu1, s7⟩
    rw [List.length_map, lq1, List.take_of_length_le (Nat.le_refl _)] at pu1
    have pu1 : Paired (fun q z => ZoneAt H7 q z) us1 (zfilt rs d) := pu1
    rw [zfilt_one ok nb] at pu1
    have sA := s1.trans s7
    clear hz1 lq1 hp1
    have hhA := hh.mono sA
    have heA := Dv.mono sA he
    refine ⟨_, rfl, a, rs, rfl, hhA, hl, ok, nb, fun p2 H9 s9 hz2 => ?_⟩
    have hh2 := hhA.mono s9
    have hd2 := Dv.mono s9 heA
    obtain ⟨qs2, hp2, lq2, hz2⟩ := hz2
    refine ⟨p2, _, rfl, .inr (SqT.of hp2), fun J G wk hG R2 hR2 => ?_⟩
    refine lc_it wk (fun k H' => ∃ us : List Addr, H' R2 = some (.lst (us.map V.ref)) ∧ Paired (fun q z => ZoneAt H' q z) us (((zonesOf rs).take k).filter fun z => sameS e (oV z.1)) ∧ Same H9 H') ⟨[], upd_same, .nil, same_new hR2⟩ (fun i H' _ ⟨_, _, _, s'⟩ => hG _ s') ?_ ?_
    · rintro k x H5 H6 hk ⟨us, fR, pu, sL⟩ ⟨rfl, hx⟩
      have hk2 : k < qs2.length := by rw [List.length_map] at hk; exact hk
      have hk3 : k < (zonesOf rs).length := by omega
      have ex : x = .ref qs2[k] := by
        rw [List.getElem?_map, List.getElem?_eq_getElem hk2] at hx
        exact (Option.some.inj hx).symm
      subst ex
      have ez : (zonesOf rs)[k]? = some (zonesOf rs)[k] := List.getElem?_eq_getElem hk3
      have tq := sL _ _ (hz2 k _ _ (List.getElem?_eq_getElem hk2) ez)
      have tk : ((zonesOf rs).take (k + 1)).filter (fun z => sameS e (oV z.1)) = ((zonesOf rs).take k).filter (fun z => sameS e (oV z.1)) ++ (if sameS e (oV (zonesOf rs)[k].1) = true then [(zonesOf rs)[k]] else []) := by
        rw [List.take_add_one, ez, List.filter_append]
        congr 1
        show List.filter _ [(zonesOf rs)[k]] = _
        rw [List.filter_cons]
        rfl
      have ul : us.length ≤ 1002 := by
        rw [Paired.length pu]
        refine Nat.le_trans (List.length_filter_le _ _) ?_
        rw [List.length_take]
        omega
      rw [tk]
      generalize (zonesOf rs)[k] = z at tq ⊢
      generalize qs2[k] = q' at tq ⊢
      have tq : H6 q' = some (.tup [oV z.1, .int z.2.1, .int z.2.2]) := tq
      refine ⟨rfl, _, rfl, _, rfl, Sq.ix (.inr (SqT.of tq)) rfl ⟨_, e, oV z.1, rfl, Dv.mono sL hd2, by cases z.1 <;> rfl, sameS e (oV z.1), rfl, ?_⟩⟩
      cases c : sameS e (oV z.1) with
      | false =>
        refine iteF' ⟨us, fR, ?_, sL⟩
        rw [if_neg (fun y => nomatch y), List.append_nil]
        exact pu
      | true =>
        have keepT : ∀ q x, H6 q = some (.tup x) → upd H6 R2 (.lst (us.map V.ref ++ [.ref q'])) q = some (.tup x) := fun q x e => by
          rw [upd_ne (fun z => by rw [z, fR] at e; cases e)]
          exact e
        refine iteT' ⟨_, rfl, _, fR, by rw [List.length_map]; exact Nat.lt_of_le_of_lt ul (by decide), us ++ [q'], by rw [upd_same, List.map_append]; rfl, ?_, fun b u e => ?_⟩
        · rw [if_pos rfl]
          exact Paired.snoc (Paired.mapP pu fun _ _ z => keepT _ _ z) (keepT _ _ tq)
        · rw [upd_ne (ne_of_none e hR2)]
          exact sL b u e
    rintro H11 ⟨us2, fR2, pu2, s11⟩
    rw [List.length_map, lq2, List.take_of_length_le (Nat.le_refl _)] at pu2
    have pu2 : Paired (fun q z => ZoneAt H11 q z) us2 (zfilt rs e) := pu2
    rw [zfilt_one ok nb] at pu2
    have sB := sA.trans (s9.trans s11)
    have fR1 := (s9.trans s11) _ _ fR1
    have pu1 : Paired (fun q z => ZoneAt H11 q z) us1 (zone1 rs d).toList := Paired.mapP pu1 fun _ _ z => (s9.trans s11) _ _ z
    have q := q H11 sB
    unfold oddsB at q
    generalize h1 : zone1 rs d = o1 at pu1 q
    generalize h2 : zone1 rs e = o2 at pu2 q
    have len1 : us1.length = o1.toList.length := Paired.length pu1
    have len2 : us2.length = o2.toList.length := Paired.length pu2
    refine ⟨.ref R1, rfl, .ref R1, (us1.map V.ref).length, rfl, .inl ⟨_, SqL.of fR1, rfl⟩, rfl, decide (o1 = none), ?_, ?_⟩
    · rw [List.length_map, len1]
      cases o1 <;> rfl
    cases o1 with
    | none => exact iteT' (iteT' q)
    | some z =>
    refine iteF' ⟨.ref R2, rfl, .ref R2, (us2.map V.ref).length, rfl, .inl ⟨_, SqL.of fR2, rfl⟩, rfl, decide (o2 = none), ?_, ?_⟩
    · rw [List.length_map, len2]
      cases o2 <;> rfl
    cases o2 with
    | none => exact iteT' (iteT' q)
    | some y =>
    obtain ⟨b1, rfl⟩ : ∃ b, us1 = [b] := by
      cases us1 with
      | nil => cases len1
      | cons b l => cases l with
        | nil => exact ⟨b, rfl⟩
        | cons _ _ => cases len1
    obtain ⟨b2, rfl⟩ : ∃ b, us2 = [b] := by
      cases us2 with
      | nil => cases len2
      | cons b l => cases l with
        | nil => exact ⟨b, rfl⟩
        | cons _ _ => cases len2
    have z1 : ZoneAt H11 b1 z := by cases pu1; assumption
    have z2 : ZoneAt H11 b2 y := by cases pu2; assumption
    refine iteF' ⟨.ref R1, rfl, .ref R2, rfl, _, _, Dp.lst (SqL.of fR1) (zs_dp pu1), Dp.lst (SqL.of fR2) (zs_dp pu2), zs_shaped (some z), zs_shaped (some y), decide (z = y), congrArg V.bl (zs_eqv z y), ?_⟩
    dsimp only at q
    cases c : decide (z = y) with
    | true =>
      rw [c] at q
      exact iteT' q
    | false =>
      rw [c] at q
      refine iteF' ?_
      have sq1 : Sq K H11 R1 [V.ref b1] := .inl (SqL.of fR1)
      have sq2 : Sq K H11 R2 [V.ref b2] := .inl (SqL.of fR2)
      have t1 : Sq K H11 b1 [oV z.1, .int z.2.1, .int z.2.2] := .inr (SqT.of z1)
      have t2 : Sq K H11 b2 [oV y.1, .int y.2.1, .int y.2.2] := .inr (SqT.of z2)
      refine ⟨_, rfl, Sq.ix sq1 rfl (Sq.ix t1 rfl ⟨_, rfl, Sq.ix sq2 rfl (Sq.ix t2 rfl ⟨z.2.1, y.2.2, rfl, rfl, decide (z.2.1 < y.2.2), rfl, ?_⟩)⟩)⟩
      cases c2 : decide (z.2.1 < y.2.2) with
      | false =>
        rw [c2] at q
        exact iteF' q
      | true =>
        rw [c2] at q
        exact iteT' ⟨_, rfl, Sq.ix sq2 rfl (Sq.ix t2 rfl ⟨_, rfl, Sq.ix sq1 rfl (Sq.ix t1 rfl ⟨y.2.1, z.2.2, rfl, rfl, q⟩)⟩)⟩
/-- neither an order nor a quarrel -/
def NoVer (K : PySem.W.Frag) (H : Hp) (CO CQ : Addr) (y : V) : Prop := ∃ t, TyX K H y t ∧ PySem.W.kitOne K t (.ref CO) = some false ∧ PySem.W.kitOne K t (.ref CQ) = some false
def quarB (rs : List Row) (d e g : PyData) : Bool := if sameS d (.str "future") = true then futB rs e g else (sameS d (.str "lots") && oddsB rs e g)
/-- what is looked at: an order, a quarrel, something else; and what is answered -/
def Ver (K : PySem.W.Frag) (H : Hp) (CO CQ : Addr) (rs : List Row) (y : V) (b : Bool) : Prop := (∃ x d, y = .ref x ∧ OrdAt K CO H x d ∧ lenD d ≤ 2000 ∧ b = orderB rs d) ∨ (∃ x d e g, y = .ref x ∧ QuaAt K CQ H x d e g ∧ b = quarB rs d e g) ∨ (NoVer K H CO CQ y ∧ b = false)
def spShow (K : PySem.W.Frag) (C cB cT CO CQ : Addr) : Sp := fun vs H Q E => ∃ v y, vs = [v, y] ∧ Looked K C cB cT v H E fun _ rs => ∃ b, Ver K H CO CQ rs y b ∧ ∀ H', Same H H' → Q (.bl b) H'
theorem scShow : FnScope ["asks", "value"] ["asks", "value"] (defScope sShow) := ⟨rfl, rfl, rfl, by decide +kernel, rfl, by decide +kernel, by decide +kernel⟩
theorem ok_show {f fN : Addr} {fd dN : FuncData} (F : Fun K "shows_order" "shows_order" sShow f fd) (T : B1 mg) (AO : OrdC K mg CO) (AQ : QuaC K mg CQ CO) (gN : mg "need_asks" = some (.ref fN)) (GN : FnOk P w K mg base (L2.CX P w) 7 fN dN ["asks"] (spNeed K C cB cT)) (kN : PySem.W.keepIn K (.ref fN) = true) (bN : Binds K dN ["asks"] [])
    (arep : Cal P w K mg base "are_parts" 3 ["asks", "value"] (spArePs K C)) (ino : Cal P w K mg base "are_in_order" 9 ["asks", "indexes"] (spInO K C)) (same : Cal P w K mg base "is_same" 2 ["value", "told"] (spSame K)) (fut : Cal P w K mg base "is_future" 8 ["asks", "one", "other"] (spFut K C)) (lao : Cal P w K mg base "are_lots_at_odds" 9 ["asks", "one", "other"] (spLAO K C)) :
    FnOk P w K mg base (L2.CX P w) 10 f fd ["asks", "value"] (spShow K C cB cT CO CQ) := by
  obtain ⟨fA, dA, gA, GA, kA, bA⟩ := arep.ex
  obtain ⟨fI, dI, gI, GI, kI, bI⟩ := ino.ex
  obtain ⟨fS, dS, gS, GS, kS, bS⟩ := same.ex
  obtain ⟨fF, dF, gF, GF, kF, bF⟩ := fut.ex
  obtain ⟨fL, dL, gL, GL, kL, bL⟩ := lao.ex
  refine F.okX scShow (fun vs H Q E h => ?_) (fun cdv A' outer s H vs Q E hr h => ?_)
  · obtain ⟨v, y, rfl, _⟩ := h
    rfl
  · obtain ⟨v, y, rfl, h⟩ := h
    have hr9 : Room 9 _ := hr
    have hr8 : Room 8 _ := hr.mono (by decide)
    have hr7 : Room 7 _ := hr.mono (by decide)
    have hr3 : Room 3 _ := hr.mono (by decide)
    have hr2 : Room 2 _ := hr.mono (by decide)
    refine ⟨_, (pss_cons (ps_expr (pe_call GN hr7 (by rfl) gN kN bN .nil (passes_call (takes_of rfl rfl rfl rfl) fun _ _ _ _ z => z) (pa_cons (pv 0) pa_nil)))
(pss_cons (ps_if (pt_val (pe_callB (call_isiQ K) (by rfl) T.isi (by decide +kernel) (pa_cons (pv 1) (pa_cons (pe_glob (v := .ref CO) (by rfl) AO.mg rfl) pa_nil))))
(pss_one (ps_ret (pe_and (pe_call GA hr3 (by rfl) gA kA bA .nil pass0 (pa_cons (pv 0) (pa_cons (pe_fldK K (pv 1) rfl) pa_nil))) (pe_one (pe_call GI hr9 (by rfl) gI kI bI .nil pass0 (pa_cons (pv 0) (pa_cons (pe_fldK K (pv 1) rfl) pa_nil)))))))
pss_nil)
(pss_cons (ps_if (pt_not (pt_val (pe_callB (call_isiQ K) (by rfl) T.isi (by decide +kernel) (pa_cons (pv 1) (pa_cons (pe_glob (v := .ref CQ) (by rfl) AQ.mg rfl) pa_nil)))))
(pss_one (ps_ret pe_bl))
pss_nil)
(pss_cons (ps_if (pt_val (pe_call GS hr2 (by rfl) gS kS bS .nil pass0 (pa_cons (pe_fldK K (pv 1) rfl) (pa_cons pe_str pa_nil))))
(pss_one (ps_ret (pe_call GF hr8 (by rfl) gF kF bF .nil pass0 (pa_cons (pv 0) (pa_cons (pe_fldK K (pv 1) rfl) (pa_cons (pe_fldK K (pv 1) rfl) pa_nil))))))
pss_nil)
(pss_one (ps_ret (pe_and (pe_call GS hr2 (by rfl) gS kS bS .nil pass0 (pa_cons (pe_fldK K (pv 1) rfl) (pa_cons pe_str pa_nil))) (pe_one (pe_call GL hr9 (by rfl) gL kL bL .nil pass0 (pa_cons (pv 0) (pa_cons (pe_fldK K (pv 1) rfl) (pa_cons (pe_fldK K (pv 1) rfl) pa_nil)))))))))))), ?_⟩
    refine ⟨v, rfl, v, rfl, h.dis fun a rs ev hh hl ok nb ⟨b, ver, q⟩ H1 s1 => ?_⟩
    subst ev
    have hh := hh.mono s1
    rcases ver with ⟨x, d, rfl, od, ld, rfl⟩ | ⟨x, d, e, g, rfl, qd, rfl⟩ | ⟨⟨t, ty, k1, k2⟩, rfl⟩
    · obtain ⟨dx, vi, hx, hv⟩ := od.mono s1
      refine ⟨_, rfl, .ref x, .ref CO, _, _, true, rfl, .own _, .base (AO.ty H1 x dx _ hx), AO.me, true, rfl, iteT' ?_⟩
      refine ⟨_, rfl, _, rfl, x, CO, dx, _, vi, rfl, hx, AO.cl, AO.ni, rfl, a, rs, vi, d, rfl, hh, hl, hv, ld, fun H2 s2 => ⟨(partsIn rs d).isSome, rfl, ?_⟩⟩
      have q' := q H2 (s1.trans s2)
      unfold orderB at q'
      cases hP : partsIn rs d with
      | none =>
        rw [hP] at q'
        exact iteF' q'
      | some o =>
        rw [hP] at q'
        dsimp only at q'
        obtain ⟨rfl, pm⟩ := partsIn_perm hP
        refine iteT' ⟨_, rfl, _, rfl, x, CO, dx, _, vi, rfl, s2 _ _ hx, AO.cl, AO.ni, rfl, ?_⟩
        have hv2 := Dv.mono s2 hv
        cases hv2 with
        | @tup t xs _ hs ha =>
          have ex := ints_of (allInts_ints _) ha
          subst ex
          refine ⟨a, rs, t, o, rfl, hh.mono s2, ?_, fun i m => ?_, q'⟩
          · rw [nats_ints]
            exact hs
          · obtain ⟨r, er⟩ := part_row (pm.mem_iff.mp m)
            exact (List.getElem?_eq_some_iff.mp er).1
    · obtain ⟨dx, v1, v2, v3, hx, hd, he, hg⟩ := qd.mono s1
      refine ⟨_, rfl, .ref x, .ref CO, _, _, false, rfl, .own _, .base (AQ.ty H1 x dx _ hx), AQ.noO, false, rfl, iteF' ?_⟩
      refine ⟨_, rfl, .ref x, .ref CQ, _, _, true, rfl, .own _, .base (AQ.ty H1 x dx _ hx), AQ.me, true, rfl, iteF' ?_⟩
      refine ⟨_, rfl, x, CQ, dx, _, v1, rfl, hx, AQ.cl, AQ.nw, rfl, v1, d, _, rfl, hd, rfl, sameS d (.str "future"), rfl, ?_⟩
      unfold quarB at q
      cases c : sameS d (.str "future") with
      | true =>
        rw [c, if_pos rfl] at q
        exact iteT' ⟨_, rfl, _, rfl, x, CQ, dx, _, v2, rfl, hx, AQ.cl, AQ.n1, rfl, _, rfl, x, CQ, dx, _, v3, rfl, hx, AQ.cl, AQ.n2, rfl, a, rs, v2, e, v3, g, rfl, hh, hl, ok, nb, he, hg, q H1 s1⟩
      | false =>
        rw [c, if_neg (by decide)] at q
        refine iteF' ⟨_, rfl, x, CQ, dx, _, v1, rfl, hx, AQ.cl, AQ.nw, rfl, v1, d, _, rfl, hd, rfl, sameS d (.str "lots"), rfl, ?_⟩
        cases c2 : sameS d (.str "lots") with
        | false =>
          rw [c2] at q
          exact iteF' (q H1 s1)
        | true =>
          rw [c2] at q
          exact iteT' ⟨_, rfl, _, rfl, x, CQ, dx, _, v2, rfl, hx, AQ.cl, AQ.n1, rfl, _, rfl, x, CQ, dx, _, v3, rfl, hx, AQ.cl, AQ.n2, rfl, a, rs, v2, e, v3, g, rfl, hh, hl, ok, nb, he, hg, fun H2 s2 => q H2 (s1.trans s2)⟩
    · refine ⟨_, rfl, y, .ref CO, t, _, false, rfl, .own _, tyX_mono s1 ty, k1, false, rfl, iteF' ?_⟩
      exact ⟨_, rfl, y, .ref CQ, t, _, false, rfl, .own _, tyX_mono s1 ty, k2, false, rfl, iteT' (q H1 s1)⟩
end
end K37
end

section
set_option Elab.async false
set_option linter.all false
set_option maxRecDepth 100000
set_option maxHeartbeats 4000000
/-! orders, as the law looks at them -/
namespace K37
open PySem PySem.Spec L2 KZ
abbrev sLIO : Stmt := top 44
def lateB (rs : List Row) : Int → List Nat → Bool
  | _, [] => true
  | t, i :: o => match rs[i]? with
    | none => false
    | some r => if (match r.e with
      | none => false
      | some e => decide (e < t)) = true then false else lateB rs (max2 t r.b) o
theorem lateB_cons {rs : List Row} {t : Int} {i : Nat} {o : List Nat} {r : Row} (h : rs[i]? = some r) : lateB rs t (i :: o) = if (match r.e with
      | none => false
      | some e => decide (e < t)) = true then false else lateB rs (max2 t r.b) o := by
  rw [lateB, h]
theorem late_along {rs : List Row} : ∀ (o : List Nat) (j : Nat) (s : Row), (∀ i ∈ o, i < rs.length) → rs[j]? = some s → lateB rs s.b o = alongB rs (some j) o
  | [], _, _, _, _ => rfl
  | i :: o, j, s, h, es => by
    have hi := h i List.mem_cons_self
    have ei : rs[i]? = some rs[i] := List.getElem?_eq_getElem hi
    rw [lateB_cons ei, alongB_cons ei es]
    generalize rs[i] = r at ei
    have ht := fun i m => h i (List.mem_cons_of_mem _ m)
    have ea : (match r.e with
      | none => false
      | some e => decide (e < s.b)) = ahead r s := rfl
    rw [ea]
    cases ahead r s with
    | true => rfl
    | false =>
      rw [if_neg (by decide), if_neg (by decide)]
      unfold max2
      by_cases c : s.b < r.b
      · rw [if_pos c, if_pos c]
        exact late_along o i r ht ei
      · rw [if_neg c, if_neg c]
        exact late_along o j s ht es
theorem late_none {rs : List Row} (ok : ∀ r ∈ rs, r.Ok) {o : List Nat} (h : ∀ i ∈ o, i < rs.length) : lateB rs (-1) o = alongB rs none o := by
  cases o with
  | nil => rfl
  | cons i o =>
    have hi := h i List.mem_cons_self
    have ei : rs[i]? = some rs[i] := List.getElem?_eq_getElem hi
    have ro := ok _ (List.getElem_mem (h i List.mem_cons_self))
    rw [lateB_cons ei]
    show _ = alongB rs (some i) o
    generalize rs[i] = r at ei ro
    have b0 := ro.b0
    have : (match r.e with
      | none => false
      | some e => decide (e < -1)) = false := by
      cases he : r.e with
      | none => rfl
      | some e =>
        have := ro.eb e he
        exact decide_eq_false (by omega)
    rw [this, if_neg (by decide), ← late_along o i r (fun i m => h i (List.mem_cons_of_mem _ m)) ei]
    congr 1
    unfold max2
    rw [if_pos (by omega)]
def lawB (rs : List Row) : Option Int → Int → List Nat → Bool
  | _, _, [] => true
  | l, t, i :: o => match rs[i]? with
    | none => false
    | some r => if (r.g && !decide (r.t = l)) = true then false else if (match r.e with
      | none => false
      | some e => decide (e < t)) = true then false else lawB rs (if r.g = false then some (i : Int) else l) (max2 t r.b) o
theorem lawB_cons {rs : List Row} {l : Option Int} {t : Int} {i : Nat} {o : List Nat} {r : Row} (h : rs[i]? = some r) : lawB rs l t (i :: o) = if (r.g && !decide (r.t = l)) = true then false else if (match r.e with
      | none => false
      | some e => decide (e < t)) = true then false else lawB rs (if r.g = false then some (i : Int) else l) (max2 t r.b) o := by
  rw [lawB, h]
theorem lawB_eq {rs : List Row} : ∀ (o : List Nat) (l : Option Int) (t : Int), (∀ i ∈ o, i < rs.length) → lawB rs l t o = (ansB rs l o && lateB rs t o)
  | [], _, _, _ => rfl
  | i :: o, l, t, h => by
    have hi := h i List.mem_cons_self
    have ei : rs[i]? = some rs[i] := List.getElem?_eq_getElem hi
    rw [lawB_cons ei, ansB_cons ei, lateB_cons ei]
    generalize rs[i] = r
    have ih := fun l t => lawB_eq o l t fun i m => h i (List.mem_cons_of_mem _ m)
    generalize (match r.e with
      | none => false
      | some e => decide (e < t)) = x
    cases hg : r.g with
    | false =>
      rw [if_pos rfl, if_pos rfl, Bool.false_and, if_neg (by decide), ih]
      cases x with
      | false => rfl
      | true => rw [if_pos rfl, if_pos rfl, Bool.and_false]
    | true =>
      cases decide (r.t = l) <;> cases x <;> simp [ih]
theorem law_order {rs : List Row} (ok : ∀ r ∈ rs, r.Ok) {o : List Nat} (h : ∀ i ∈ o, i < rs.length) : lawB rs none (-1) o = (ansB rs none o && alongB rs none o) := by
  rw [lawB_eq o none (-1) h, late_none ok h]
/-- none, a truth, a number, a text -/
def scD : PyData → Bool
  | .none => true
  | .bool _ => true
  | .int _ => true
  | .str x => PyData.canLay0 (.str x)
  | _ => false
def flatD : PyData → Bool
  | .tuple ds => ds.all scD
  | .list ds => ds.all scD
  | d => scD d
theorem sc_can : ∀ {ds : List PyData}, ds.all scD = true → PyData.canLayAll0 ds = true ∧ PyData.depthAll ds = 0
  | [], _ => ⟨rfl, rfl⟩
  | d :: r, h => by
    have ⟨h1, h2⟩ := Bool.and_eq_true_iff.mp (show (scD d && r.all scD) = true from h)
    obtain ⟨a, b⟩ := sc_can h2
    refine ⟨?_, ?_⟩
    · show (PyData.canLay0 d && PyData.canLayAll0 r) = true
      rw [a, Bool.and_true]
      cases d <;> first | rfl | exact h1 | cases h1
    · show max (PyData.depth d) (PyData.depthAll r) = 0
      rw [b]
      cases d <;> first | rfl | cases h1
theorem sc_shaped {ds : List PyData} (h : ds.all scD = true) : SeqAt.shaped (.list ds) = true := by
  obtain ⟨a, b⟩ := sc_can h
  unfold SeqAt.shaped
  rw [show PyData.canLay0 (.list ds) = PyData.canLayAll0 ds from rfl, a, decide_eq_true (show PyData.depth (.list ds) ≤ 64 from (by show PyData.depthAll ds + 1 ≤ 64; omega))]
  rfl
theorem sc_dp {K : PySem.W.Frag} {H : Hp} : ∀ {xs : List V} {ds : List PyData}, ds.all scD = true → Dvs K H xs ds → DpAll K H xs ds
  | _, _, _, .nil => .nil
  | v :: xs, d :: ds, h, hh => by
    have ⟨h1, h2⟩ := Bool.and_eq_true_iff.mp (show (scD d && ds.all scD) = true from h)
    cases hh with
    | cons a b =>
      refine .cons (Dv.dp a ?_) (sc_dp h2 b)
      cases d <;> first | rfl | cases h1
def notI (d : PyData) : Bool := !isInt d
theorem notI_none : ∀ ds : List PyData, (ds.filter notI).isEmpty = (allInts ds).isSome
  | [] => rfl
  | d :: r => by
    rw [List.filter_cons]
    cases d <;> first | rfl | skip
    rw [show notI (.int _) = false from rfl, if_neg (by decide), notI_none r]
    exact (Option.isSome_map).symm
theorem if_due3 {c : TT} {s1 s2 rest : TS} {D : Ends} {σ : L2.St} {H : Hp} (good : L2.St → Hp → Prop) (h : ∀ Dn : L2.St → Hp → Prop, (∀ σ' H', good σ' H' → Dn σ' H') → tIfS c s1 s2 { D with nx := Dn } σ H) (go : ∀ σ' H', good σ' H' → rest D σ' H') : tSeq (tIfS c s1 s2) rest D σ H := h _ go
def spLIO (K : PySem.W.Frag) : Sp := fun vs H Q _ => ∃ a rs v d, vs = [.ref a, v] ∧ RowsAt H a rs ∧ rs.length ≤ 1000 ∧ (∀ r ∈ rs, r.Ok) ∧ firstBad rs = none ∧ Dv K H v d ∧ lenD d ≤ 2000 ∧ flatD d = true ∧ ∀ H', Same H H' → Q (.bl (orderB rs d)) H'
section
variable {P : Program} {w : World} {K : PySem.W.Frag} {mg : Str → Option Value} {base : Heap}
theorem scLIO : FnScope ["rows", "indexes", "at", "last", "late"] ["rows", "indexes"] (defScope sLIO) := ⟨rfl, rfl, rfl, by decide +kernel, rfl, by decide +kernel, by decide +kernel⟩
theorem ok_lio {f : Addr} {fd : FuncData} (F : Fun K "_law_is_order" "_law_is_order" sLIO f fd) (T : B1 mg) (parts : Cal P w K mg base "_law_parts" 1 ["rows"] spLParts) : FnOk P w K mg base CX0 2 f fd ["rows", "indexes"] (spLIO K) := by
  obtain ⟨fP, dP, gP, GP, kP, bP⟩ := parts.ex
  refine F.ok scLIO (fun vs H Q E h => ?_) (fun cdv A' outer s H vs Q E hr h => ?_)
  · obtain ⟨a, rs, v, d, rfl, _⟩ := h
    rfl
  · obtain ⟨a, rs, v, d, rfl, hh, hl, ok, nb, hd, ld, fl, q⟩ := h
    have hr1 : Room 1 _ := hr
    refine ⟨_, (pss_cons (ps_if (PW.pt (pw_or (pt_not (pt_val (pe_callB (call_isDK K (c := "tuple")) (by rfl) T.isi (by decide +kernel) (pa_cons (pv 1) (pa_cons (pe_bltn (v := .ty "tuple") (by rfl) T.tuple (by decide +kernel) rfl) pa_nil))))) (pw_or1 (pt_cmpR (op_neD hr.units) (pe_lc (own := [("at", 2)]) (g := gName 2) (by rfl) scLIO.nd (pi_sq (pv 1)) (blkOk_by (own := [("at", 2)]) (N := ["rows", "indexes", "at", "last", "late"]) (sc := defScope sLIO) (by decide +kernel)) (fun _ _ _ _ _ => pg_name (i := 2) scLIO.nd rfl (Or.inl rfl)) (fun _ _ _ _ _ => pts_one (PW.pt (pw_or (pt_not (pt_val (pe_callB (call_isDK K (c := "int")) (by rfl) T.isi (by decide +kernel) (pa_cons (pv 2) (pa_cons (pe_bltn (v := .ty "int") (by rfl) T.int (by decide +kernel) rfl) pa_nil))))) (pw_or1 (pt_val (pe_callB (call_isDK K (c := "bool")) (by rfl) T.isi (by decide +kernel) (pa_cons (pv 2) (pa_cons (pe_bltn (v := .ty "bool") (by rfl) T.bool (by decide +kernel) rfl) pa_nil)))))))) (fun _ _ _ _ _ => pv 2)) (pe_lst pa_nil) (nomark _)))))
(pss_one (ps_ret pe_bl))
pss_nil)
(pss_cons (ps_if (pt_cmpR (op_neD hr.units) (pe_callB cr_sortedI (by rfl) T.sorted (by decide +kernel) (pa_cons (pe_lc (own := [("at", 2)]) (g := gName 2) (tt := tYes) (by rfl) scLIO.nd (pi_sq (pv 1)) (blkOk_by (own := [("at", 2)]) (N := ["rows", "indexes", "at", "last", "late"]) (sc := defScope sLIO) (by decide +kernel)) (fun _ _ _ _ _ => pg_name (i := 2) scLIO.nd rfl (Or.inl rfl)) (fun _ _ _ _ _ => pts_nil) (fun _ _ _ _ _ => pe_callTy call_int1 (by rfl) T.int (by decide +kernel) (pa_cons (pv 2) pa_nil))) pa_nil)) (pe_call GP hr1 (by rfl) gP kP bP .nil pass0 (pa_cons (pv 0) pa_nil)) (nomark _))
(pss_one (ps_ret pe_bl))
pss_nil)
(pss_cons (ps_asg (pe_tup (pa_cons pe_non (pa_cons (pe_un un_neg pe_int) pa_nil))) (pg_tup rfl (pgs_cons (pg_name (i := 3) scLIO.nd rfl (Or.inl rfl)) (pgs_cons (pg_name (i := 4) scLIO.nd rfl (Or.inl rfl)) pgs_nil))))
(pss_cons (ps_for PassesOwn.never rfl (pi_sq (pv 1)) (pg_name (i := 2) scLIO.nd rfl (Or.inl rfl))
(pss_cons (ps_if (pt_cmpR op_eq (pe_ix (ix_seqK K) (pe_ix (ix_seqK K) (pv 0) (pv 2) (fun _ _ => rfl)) pe_int (fun _ _ => rfl)) pe_str (nomark _))
(pss_one (ps_set (i := 3) scLIO.nd rfl (Or.inl rfl) (pv 2)))
(pss_one (ps_if (pt_cmpR op_ne (pe_ix (ix_seqK K) (pe_ix (ix_seqK K) (pv 0) (pv 2) (fun _ _ => rfl)) pe_int (fun _ _ => rfl)) (pv 3) (nomark _))
(pss_one (ps_ret pe_bl))
pss_nil)))
(pss_cons (ps_if (PW.pt (pw_and (pt_cmpR op_notN (pe_ix (ix_seqK K) (pe_ix (ix_seqK K) (pv 0) (pv 2) (fun _ _ => rfl)) pe_int (fun _ _ => rfl)) pe_non (nomark _)) (pw_and1 (pt_cmpR op_lt (pe_ix (ix_seqK K) (pe_ix (ix_seqK K) (pv 0) (pv 2) (fun _ _ => rfl)) pe_int (fun _ _ => rfl)) (pv 4) (nomark _)))))
(pss_one (ps_ret pe_bl))
pss_nil)
(pss_one (ps_set (i := 4) scLIO.nd rfl (Or.inl rfl) (pe_callB (call_max2 rfl) (by rfl) T.max (by decide +kernel) (pa_cons (pe_callTy call_int1 (by rfl) T.int (by decide +kernel) (pa_cons (pv 4) pa_nil)) (pa_cons (pe_callTy call_int1 (by rfl) T.int (by decide +kernel) (pa_cons (pe_ix (ix_seqK K) (pe_ix (ix_seqK K) (pv 0) (pv 2) (fun _ _ => rfl)) pe_int (fun _ _ => rfl)) pa_nil)) pa_nil))))))))
(pss_one (ps_ret pe_bl)))))), ?_⟩
    refine ⟨v, rfl, v, d, rfl, hd, _, rfl, ?_⟩
    cases d with
    | tuple ds =>
      cases hd with
      | @tup t xs _ hs ha =>
        have lx : xs.length = ds.length := Dvs.len ha
        have ld2 : ds.length ≤ 2000 := ld
        have fl2 : ds.all scD = true := fl
        refine iteF' ⟨_, rfl, t, xs, rfl, .inr hs, fun J G wk hG D hD => ?_⟩
        refine lc_it wk (fun i H' => ∃ ys, H' D = some (.lst ys) ∧ Dvs K H' ys ((ds.take i).filter notI) ∧ Same H H') ⟨[], upd_same, .nil, same_new hD⟩ (fun i H' _ ⟨_, _, _, e⟩ => hG _ e) ?_ ?_
        · rintro i x H2 H3 hi ⟨ys, fD, dv, s2⟩ ⟨rfl, hx⟩
          obtain ⟨dx, e1, e2⟩ := Dvs.get ha hx
          have e2 := Dv.mono s2 e2
          have tk : (ds.take (i + 1)).filter notI = (ds.take i).filter notI ++ (if notI dx = true then [dx] else []) := by
            rw [List.take_add_one, e1, List.filter_append]
            congr 1
            show List.filter _ [dx] = _
            rw [List.filter_cons]
            rfl
          have sx : scD dx = true := List.all_eq_true.mp fl2 dx (List.mem_of_getElem? e1)
          have yl : ys.length ≤ 2000 := by
            rw [Dvs.len dv]
            refine Nat.le_trans (List.length_filter_le _ _) ?_
            rw [List.length_take]
            omega
          rw [tk]
          have app : (if notI dx = true then [dx] else []) = [dx] → ∃ acc, H3 D = some (.lst acc) ∧ acc.length < sizeLine ∧ ∃ ys, upd H3 D (.lst (acc ++ [x])) D = some (.lst ys) ∧ Dvs K (upd H3 D (.lst (acc ++ [x]))) ys ((ds.take i).filter notI ++ (if notI dx = true then [dx] else [])) ∧ Same H (upd H3 D (.lst (acc ++ [x]))) := fun e => by
            refine ⟨_, fD, Nat.lt_of_le_of_lt yl (by decide), _, upd_same, ?_, fun b o eb => ?_⟩
            · rw [e]
              have sc : ∀ {ys : List V} {es : List PyData} {H1 H2 : Hp}, es.all scD = true → Dvs K H1 ys es → Dvs K H2 ys es := fun {ys es H1 H2} hs h => by
                induction ys generalizing es with
                | nil => cases h; exact .nil
                | cons y ys ih =>
                  cases h with
                  | cons a b =>
                    have ⟨h1, h2⟩ := Bool.and_eq_true_iff.mp (show (_ && _) = true from hs)
                    refine .cons ?_ (ih h2 b)
                    cases a <;> first | exact .non | exact .bl _ | exact .int _ | exact .str _ | cases h1
              have all1 : ((ds.take i).filter notI).all scD = true := List.all_eq_true.mpr fun z m => List.all_eq_true.mp fl2 z (List.mem_of_mem_take (List.mem_filter.mp m).1)
              refine Dvs.snoc (sc all1 dv) ?_
              cases e2 <;> first | exact .non | exact .bl _ | exact .int _ | exact .str _ | cases sx
            · rw [upd_ne (ne_of_none eb hD)]
              exact s2 b o eb
          refine ⟨rfl, x, rfl, x, dx, rfl, e2, _, rfl, ?_⟩
          cases dx with
          | int j =>
            refine iteF' ⟨x, rfl, x, _, rfl, e2, _, rfl, iteF' ⟨ys, fD, ?_, s2⟩⟩
            rw [if_neg (show ¬ notI (.int j) = true from fun z => nomatch z), List.append_nil]
            exact dv
          | bool b => exact iteF' ⟨x, rfl, x, _, rfl, e2, _, rfl, iteT' ⟨_, rfl, app rfl⟩⟩
          | none => exact iteT' (iteT' ⟨_, rfl, app rfl⟩)
          | str y => exact iteT' (iteT' ⟨_, rfl, app rfl⟩)
          | _ => cases sx
        · rintro H2 ⟨ys, fD, dv, s2⟩
          rw [lx, List.take_of_length_le (Nat.le_refl _)] at dv
          have allF : (ds.filter notI).all scD = true := List.all_eq_true.mpr fun z m => List.all_eq_true.mp fl2 z (List.mem_filter.mp m).1
          refine ⟨Nat.zero_le _, fun N hN => ?_⟩
          have s3 := s2.trans (same_new (o := .lst []) hN)
          refine ⟨_, _, Dp.lst (SqL.of (same_new hN _ _ fD)) (sc_dp allF (Dvs.mono (same_new hN) dv)), Dp.lst (SqL.of upd_same) .nil, sc_shaped allF, by decide +kernel, (allInts ds).isNone, ?_, ?_⟩
          · have e : PyData.eqv (.list (ds.filter notI)) (.list []) = (ds.filter notI).isEmpty := by cases ds.filter notI <;> rfl
            rw [e, notI_none]
            cases allInts ds <;> rfl
          cases hA : allInts ds with
          | none =>
            refine iteT' ?_
            have := q _ s3
            unfold orderB partsIn at this
            dsimp only at this
            rw [hA] at this
            exact this
          | some ns =>
            refine iteF' ?_
            have ex := ints_of hA ha
            subst ex
            have hs3 := sqT_mono s3 hs
            have hh3 := hh.mono s3
            generalize upd H2 N (.lst []) = H4 at s3 hs3 hh3 ⊢
            have ln : ns.length ≤ 2000 := by rw [List.length_map] at lx; omega
            refine ⟨_, rfl, t, _, rfl, .inr hs3, fun J G wk hG R hR => ?_⟩
            refine lc_it wk (fun i H' => H' = upd H4 R (.lst ((ns.take i).map V.int))) (by simp) (fun i H' _ e => hG _ (by rw [e]; exact same_new hR)) ?_ ?_
            · rintro i x H5 H6 hi rfl ⟨rfl, hx⟩
              have hi2 : i < ns.length := by rw [List.length_map] at hi; exact hi
              have ex : x = .int ns[i] := by
                rw [List.getElem?_map, List.getElem?_eq_getElem hi2] at hx
                exact (Option.some.inj hx).symm
              subst ex
              refine ⟨rfl, yes_go ⟨_, rfl, .inl ⟨ns[i], rfl, _, upd_same, ?_, ?_⟩⟩⟩
              · rw [List.length_map, List.length_take]
                exact Nat.lt_of_le_of_lt (Nat.min_le_right _ _) (Nat.lt_of_le_of_lt ln (by decide))
              · rw [upd_upd, List.take_add_one, List.getElem?_eq_getElem hi2, List.map_append]
                rfl
            · rintro H5 rfl
              rw [List.length_map, List.take_of_length_le (Nat.le_refl _)]
              refine ⟨R, ns, rfl, SqL.of upd_same, fun ns' p pm pw hp => ?_⟩
              have s5 := s3.trans ((same_new (o := .lst (ns.map V.int)) hR).trans (same_new (o := .lst (ns'.map V.int)) hp))
              refine ⟨.ref a, rfl, a, rs, rfl, hh.mono s5, hl, ok, nb, fun E H6 s6 hE => ?_⟩
              have fp := s6 _ _ (upd_same (H := upd H4 R (.lst (ns.map V.int))) (a := p) (o := .lst (ns'.map V.int)))
              have ns'e : ns' = PySem.W.sortI ns := PySem.W.eq_sortI pm pw
              have sA := s5.trans s6
              have hsA := sqT_mono sA hs
              have hhA := hh.mono sA
              refine ⟨_, _, Dp.lst (SqL.of fp) (dp_ints ns'), Dp.lst (SqL.of hE) (by rw [nats_ints]; exact dp_ints _), shaped_ints _, shaped_ints _, !decide (ns' = natsI (partsOf rs)), ?_, ?_⟩
              · rw [show PyData.eqv (.list (ns'.map .int)) (.list (((partsOf rs).map fun (i : Nat) => (i : Int)).map .int)) = _ from eqv_int2 ns' (natsI (partsOf rs))]
              have q := fun H' (s : Same H6 H') => q H' (sA.trans s)
              have pe : partsIn rs (.tuple ds) = if decide (ns' = natsI (partsOf rs)) = true then some (ns.map Int.toNat) else none := by
                unfold partsIn
                dsimp only
                rw [hA, ns'e]
              cases c : decide (ns' = natsI (partsOf rs)) with
              | false =>
                refine iteT' ?_
                have := q _ (Same.refl _)
                unfold orderB at this
                rw [pe, c] at this
                exact this
              | true =>
                rw [c, if_pos rfl] at pe
                generalize ns.map Int.toNat = o at pe
                obtain ⟨de, pmo⟩ := partsIn_perm pe
                have nse : ns = natsI o := by
                  have e1 := ints_eq hA
                  have de := PyData.tuple.inj de
                  rw [e1] at de
                  exact (List.map_inj_right fun x y z => PyData.int.inj z).mp de
                have lo : ∀ i ∈ o, i < rs.length := fun i m => by
                  obtain ⟨r, er⟩ := part_row (pmo.mem_iff.mp m)
                  exact (List.getElem?_eq_some_iff.mp er).1
                have oe : orderB rs (.tuple ds) = lawB rs none (-1) o := by
                  unfold orderB
                  rw [pe]
                  exact (law_order ok lo).symm
                rw [oe] at q
                subst nse
                refine iteF' ?_
                refine ⟨1, rfl, by show 2 ≤ sizeLine; decide, fun t0 ht0 => ⟨t0, _, rfl, SqT.of upd_same, rfl, _, _, rfl, _, _, rfl, rfl, ?_⟩⟩
                have s7 := same_new (o := .tup [.non, .int (-1)]) ht0
                have q := fun H' s => q H' (s7.trans s)
                have hsA := sqT_mono s7 hsA
                obtain ⟨ps, hr0, lp, hrow⟩ := hhA.mono s7
                generalize upd H6 t0 (.tup [.non, .int (-1)]) = HA at q hsA hr0 hrow ⊢
                refine ⟨_, rfl, t, _, rfl, .inr hsA, fun J G wk hG => ?_⟩
                refine for_it wk (fun k σ H' => H' = HA ∧ ∃ l late x2, σ = [some (.ref a), some (.ref t), x2, some (oV l), some (.int late)] ∧ lawB rs l late (o.drop k) = lawB rs none (-1) o) ⟨rfl, none, _, _, rfl, rfl⟩ (fun i σ H' _ e => hG _ (by rw [e.1]; exact Same.refl HA)) ?_ ?_
                · rintro k x σ H7 H8 hk ⟨rfl, l, late, x2, rfl, e⟩ ⟨rfl, hx⟩
                  have hk2 : k < o.length := by unfold natsI at hk; rw [List.length_map, List.length_map] at hk; exact hk
                  have ex : x = .int (o[k] : Nat) := by
                    unfold natsI at hx
                    rw [List.getElem?_map, List.getElem?_map, List.getElem?_eq_getElem hk2] at hx
                    exact (Option.some.inj hx).symm
                  subst ex
                  have dk : o.drop k = o[k] :: o.drop (k + 1) := List.drop_eq_getElem_cons hk2
                  rw [dk] at e
                  have lm := lo _ (List.getElem_mem hk2)
                  generalize o[k] = m at e lm
                  have em : rs[m]? = some rs[m] := List.getElem?_eq_getElem lm
                  have lmp : m < ps.length := by omega
                  have ax : atI (ps.map V.ref) (m : Int) = some (.ref ps[m]) := at_nat (by rw [List.getElem?_map, List.getElem?_eq_getElem lmp]; rfl)
                  have hp := hrow m ps[m] rs[m] (List.getElem?_eq_getElem lmp) em
                  rw [lawB_cons em] at e
                  have sq : Sq K H8 a (ps.map V.ref) := .inl (SqL.of hr0)
                  generalize rs[m] = r at hp e
                  generalize ps[m] = p at ax hp
                  have tq : Sq K H8 p (rowV r) := .inr (SqT.of hp)
                  have row : ∀ {i : Int} {v : V} {Q : VK}, atI (rowV r) i = some v → Q v H8 → rIx K (.ref p) (.int i) H8 Q := fun e q => Sq.ix tq e q
                  have rrow : ∀ {Q : VK}, Q (.ref p) H8 → rIx K (.ref a) (.int (m : Nat)) H8 Q := fun q => Sq.ix sq ax q
                  have out : (if (r.g && !decide (r.t = l)) = true then false else if (match r.e with
                      | none => false
                      | some e => decide (e < late)) = true then false else lawB rs (if r.g = false then some (m : Int) else l) (max2 late r.b) (o.drop (k + 1))) = false → Q (.bl false) H8 := fun z => by
                    have := q H8 (Same.refl _)
                    rw [← e, z] at this
                    exact this
                  refine if_due3 (fun σ' H' => H' = H8 ∧ (r.g && !decide (r.t = l)) = false ∧ σ' = [some (.ref a), some (.ref t), some (.int (m : Nat)), some (oV (if r.g = false then some (m : Int) else l)), some (.int late)]) (fun Dn z => ?_) (fun σ' H' ⟨hH, g1, eσ⟩ => ?_)
                  · refine ifs_go ⟨_, rfl, _, rfl, rrow (row rfl ⟨rfl, !r.g, by cases r.g <;> decide +kernel, ?_⟩)⟩
                    cases hg : r.g with
                    | false => exact iteT' ⟨_, rfl, z _ _ ⟨rfl, by rw [hg]; rfl, by rw [hg]; rfl⟩⟩
                    | true =>
                      refine iteF' (ifs_go ⟨_, rfl, _, rfl, rrow (row rfl ⟨_, rfl, by cases r.t <;> cases l <;> rfl, !decide (r.t = l), by rw [eq_oV], ?_⟩)⟩)
                      cases c : decide (r.t = l) with
                      | false => exact iteT' (out (by rw [hg, c]; rfl))
                      | true => exact iteF' (z _ _ ⟨rfl, by rw [hg, c]; rfl, by rw [hg]; rfl⟩)
                  · subst hH eσ
                    rw [g1, if_neg (by decide)] at e out
                    refine if_due3 (fun σ' H'' => H'' = H' ∧ (match r.e with
                      | none => false
                      | some e => decide (e < late)) = false ∧ σ' = [some (.ref a), some (.ref t), some (.int (m : Nat)), some (oV (if r.g = false then some (m : Int) else l)), some (.int late)]) (fun Dn z => ?_) (fun σ' H'' ⟨hH, g2, eσ⟩ => ?_)
                    · refine ifs_go ⟨_, rfl, _, rfl, rrow (row rfl ⟨rfl, r.e.isSome, by cases r.e <;> rfl, ?_⟩)⟩
                      cases he : r.e with
                      | none => exact iteF' (iteF' (z _ _ ⟨rfl, by rw [he], rfl⟩))
                      | some e' =>
                        refine iteT' ⟨_, rfl, _, rfl, rrow (row (show atI (rowV r) 3 = some (.int e') from by unfold rowV; rw [he]; rfl) ⟨_, rfl, e', late, rfl, rfl, decide (e' < late), rfl, ?_⟩)⟩
                        rw [he] at out
                        dsimp only at out
                        cases c : decide (e' < late) with
                        | true => exact iteT' (out (if_pos c))
                        | false => exact iteF' (z _ _ ⟨rfl, by rw [he]; exact c, rfl⟩)
                    · subst hH eσ
                      rw [g2, if_neg (by decide)] at e
                      refine ⟨_, rfl, .inl ⟨late, rfl, _, rfl, _, rfl, rrow (row rfl (.inl ⟨r.b, rfl, ?_⟩))⟩⟩
                      exact ⟨late, r.b, rfl, rfl, _, _, _, rfl, e⟩
                · rintro σ H7 ⟨rfl, l, late, x2, rfl, e⟩
                  rw [List.drop_of_length_le (by unfold natsI; rw [List.length_map, List.length_map]; exact Nat.le_refl _)] at e
                  have q := q _ (Same.refl _)
                  rw [← e] at q
                  exact q
    | _ => exact iteT' (iteT' (q _ (Same.refl H)))
end
end K37
end

section
set_option Elab.async false
set_option linter.all false
set_option maxRecDepth 100000
set_option maxHeartbeats 4000000
/-! quarrels, as the law looks at them -/
namespace K37
open PySem PySem.Spec L2 KZ
abbrev sCross : Stmt := top 46
abbrev sCrg : Stmt := top 47
abbrev sLIQ : Stmt := top 48
theorem op_notInTK {X : Cx} (K : PySem.W.Frag) (room : X.A.units + 65 < cLine) (h : X.K = K := by rfl) : OpR X (compareOp .NotIn) (rNotInT K) := by
  subst h
  exact op_notInT room
def lotD : PyData → Option (Option Int)
  | .none => some none
  | .int i => some (some i)
  | _ => none
theorem lotD_some {d : PyData} {k : Option Int} (h : lotD d = some k) : d = oD k := by
  cases d <;> first | (cases h; rfl) | cases h
theorem dv_oD {K : PySem.W.Frag} {H : Hp} {v : V} {k : Option Int} (h : Dv K H v (oD k)) : v = oV k := by
  cases k <;> (cases h; rfl)
def crossB (rs : List Row) (k l : Option Int) : Bool := !decide (k = l) && ((getG (lzOf rs) k).isSome && ((getG (lzOf rs) l).isSome && (decide (Ez rs k < Bz rs l) && decide (Ez rs l < Bz rs k))))
theorem sameS_oD (k l : Option Int) : sameS (oD k) (oV l) = decide (k = l) := by
  cases k <;> cases l <;> first | rfl | skip
  rename_i i j
  exact decide_eq_decide.mpr (by rw [Option.some.injEq])
theorem same_no {d : PyData} (h : lotD d = none) (l : Option Int) : sameS d (oV l) = false := by
  cases d <;> first | (cases l <;> rfl) | cases h
section
variable {rs : List Row}
theorem zone1_no {d : PyData} (h : lotD d = none) : zone1 rs d = none := by
  unfold zone1
  rw [List.find?_eq_none]
  intro z _
  rw [same_no h]
  decide
theorem zone1_some (ok : ∀ r ∈ rs, r.Ok) (nb : firstBad rs = none) {k : Option Int} (h : HasL rs k) : zone1 rs (oD k) = some (zoneM rs k) := by
  unfold zone1
  cases hf : (zonesOf rs).find? fun z => sameS (oD k) (oV z.1) with
  | none =>
    obtain ⟨i, mi, li⟩ := h
    have m := (zones_iff ok nb).mpr ⟨i, mi, rfl⟩
    have := List.find?_eq_none.mp hf _ m
    rw [sameS_oD, zoneM_key, li, decide_eq_true rfl] at this
    exact absurd rfl this
  | some z =>
    have m := List.mem_of_find?_eq_some hf
    have e := List.find?_some hf
    rw [sameS_oD] at e
    have e := of_decide_eq_true e
    obtain ⟨i, mi, rfl⟩ := (zones_iff ok nb).mp m
    rw [zoneM_key] at e
    rw [e]
theorem zone1_none (ok : ∀ r ∈ rs, r.Ok) (nb : firstBad rs = none) {k : Option Int} (h : ¬ HasL rs k) : zone1 rs (oD k) = none := by
  unfold zone1
  rw [List.find?_eq_none]
  intro z m
  obtain ⟨i, mi, rfl⟩ := (zones_iff ok nb).mp m
  rw [sameS_oD, zoneM_key]
  exact fun e => h ⟨i, mi, (of_decide_eq_true e).symm⟩
theorem odds_cross (ok : ∀ r ∈ rs, r.Ok) (nb : firstBad rs = none) (k l : Option Int) : oddsB rs (oD k) (oD l) = crossB rs k l := by
  unfold oddsB crossB
  by_cases hk : HasL rs k
  · rw [zone1_some ok nb hk, lz_some ok hk]
    by_cases hl : HasL rs l
    · rw [zone1_some ok nb hl, lz_some ok hl]
      have e : decide (zoneM rs k = zoneM rs l) = decide (k = l) := decide_eq_decide.mpr ⟨fun e => congrArg (·.1) e, fun e => by rw [e]⟩
      show (!decide (zoneM rs k = zoneM rs l) && _) = _
      rw [e]
      rfl
    · rw [zone1_none ok nb hl, lz_none hl]
      simp
  · rw [zone1_none ok nb hk, lz_none hk]
    simp
theorem odds_no1 {d e : PyData} (h : lotD d = none) : oddsB rs d e = false := by
  unfold oddsB
  rw [zone1_no h]
theorem odds_no2 {d e : PyData} (h : lotD e = none) : oddsB rs d e = false := by
  unfold oddsB
  rw [zone1_no h]
  cases zone1 rs d <;> rfl
end
def spCross : Sp := fun vs H Q _ => ∃ (p q : Addr) (e1 b1 e2 b2 : Int), vs = [.ref p, .ref q] ∧ H p = some (.tup [.int e1, .int b1]) ∧ H q = some (.tup [.int e2, .int b2]) ∧ Q (.bl (decide (e1 < b2) && decide (e2 < b1))) H
def spCrg (K : PySem.W.Frag) : Sp := fun vs H Q _ => ∃ a rs v d u e, vs = [.ref a, v, u] ∧ RowsAt H a rs ∧ rs.length ≤ 1000 ∧ (∀ r ∈ rs, r.Ok) ∧ firstBad rs = none ∧ Dv K H v d ∧ Dv K H u e ∧ ∀ H', Same H H' → Q (.bl (oddsB rs d e)) H'
def spLIQ (K : PySem.W.Frag) : Sp := fun vs H Q _ => ∃ a rs x c v d u e, vs = [.ref a, x, v, u] ∧ RowsAt H a rs ∧ rs.length ≤ 1000 ∧ (∀ r ∈ rs, r.Ok) ∧ firstBad rs = none ∧ Dv K H x c ∧ (∀ y, c = .str y → PyData.canLay0 (.str y) = true) ∧ Dv K H v d ∧ Dv K H u e ∧ ∀ H', Same H H' → Q (.bl (quarB rs c d e)) H'
section
variable {P : Program} {w : World} {K : PySem.W.Frag} {mg : Str → Option Value} {base : Heap}
theorem scCross : FnScope ["here", "there"] ["here", "there"] (defScope sCross) := ⟨rfl, rfl, rfl, by decide +kernel, rfl, by decide +kernel, by decide +kernel⟩
theorem ok_cross {f : Addr} {fd : FuncData} (F : Fun K "_law_cross" "_law_cross" sCross f fd) : FnOk P w K mg base CX0 1 f fd ["here", "there"] spCross := by
  refine F.ok scCross (fun vs H Q E h => ?_) (fun cdv A' outer s H vs Q E hr h => ?_)
  · obtain ⟨p, q, e1, b1, e2, b2, rfl, _⟩ := h
    rfl
  · obtain ⟨p, q, e1, b1, e2, b2, rfl, hp, hq, k⟩ := h
    refine ⟨_, (pss_one (ps_ret (pe_and (pe_cmpR op_lt (pe_ix (ix_seqK K) (pv 0) pe_int (fun _ _ => rfl)) (pe_ix (ix_seqK K) (pv 1) pe_int (fun _ _ => rfl)) (nomark _)) (pe_one (pe_cmpR op_lt (pe_ix (ix_seqK K) (pv 1) pe_int (fun _ _ => rfl)) (pe_ix (ix_seqK K) (pv 0) pe_int (fun _ _ => rfl)) (nomark _)))))), ?_⟩
    have t1 : Sq K H p [.int e1, .int b1] := .inr (SqT.of hp)
    have t2 : Sq K H q [.int e2, .int b2] := .inr (SqT.of hq)
    refine ⟨_, rfl, Sq.ix t1 rfl ⟨_, rfl, Sq.ix t2 rfl ⟨e1, b2, rfl, rfl, decide (e1 < b2), rfl, ?_⟩⟩⟩
    cases c : decide (e1 < b2) with
    | false =>
      rw [c] at k
      exact iteF' k
    | true =>
      rw [c] at k
      exact iteT' ⟨_, rfl, Sq.ix t2 rfl ⟨_, rfl, Sq.ix t1 rfl ⟨e2, b1, rfl, rfl, k⟩⟩⟩
theorem scCrg : FnScope ["rows", "one", "other", "lot", "some"] ["rows", "one", "other"] (defScope sCrg) := ⟨rfl, rfl, rfl, by decide +kernel, rfl, by decide +kernel, by decide +kernel⟩
theorem ok_crg {f : Addr} {fd : FuncData} (F : Fun K "_law_crossing" "_law_crossing" sCrg f fd) (T : B1 mg) (zones : Cal P w K mg base "_law_zones" 2 ["rows"] (spLZones P w)) (cross : Cal P w K mg base "_law_cross" 1 ["here", "there"] spCross) : FnOk P w K mg base CX0 3 f fd ["rows", "one", "other"] (spCrg K) := by
  obtain ⟨fZ, dZ, gZ, GZ, kZ, bZ⟩ := zones.ex
  obtain ⟨fC, dC, gC, GC, kC, bC⟩ := cross.ex
  refine F.ok scCrg (fun vs H Q E h => ?_) (fun cdv A' outer s H vs Q E hr h => ?_)
  · obtain ⟨a, rs, v, d, u, e, rfl, _⟩ := h
    rfl
  · obtain ⟨a, rs, v, d, u, e, rfl, hh, hl, ok, nb, hd, he, q⟩ := h
    have hr2 : Room 2 _ := hr
    have hr1 : Room 1 _ := hr.mono (by decide)
    refine ⟨_, (pss_cons (ps_for PassesOwn.never rfl (pi_sq (pe_tup (pa_cons (pv 1) (pa_cons (pv 2) pa_nil)))) (pg_name (i := 3) scCrg.nd rfl (Or.inl rfl))
(pss_one (ps_if (PW.pt (pw_and (pt_cmpR op_notN (pv 3) pe_non (nomark _)) (pw_and1 (PW.pt (pw_or (pt_not (pt_val (pe_callB (call_isDK K (c := "int")) (by rfl) T.isi (by decide +kernel) (pa_cons (pv 3) (pa_cons (pe_bltn (v := .ty "int") (by rfl) T.int (by decide +kernel) rfl) pa_nil))))) (pw_or1 (pt_val (pe_callB (call_isDK K (c := "bool")) (by rfl) T.isi (by decide +kernel) (pa_cons (pv 3) (pa_cons (pe_bltn (v := .ty "bool") (by rfl) T.bool (by decide +kernel) rfl) pa_nil))))))))))
(pss_one (ps_ret pe_bl))
pss_nil)))
(pss_cons (ps_set (i := 4) scCrg.nd rfl (Or.inl rfl) (pe_call GZ hr2 (by rfl) gZ kZ bZ .nil pass0 (pa_cons (pv 0) pa_nil)))
(pss_one (ps_ret (pe_and (pe_cmpR op_ne (pv 1) (pv 2) (nomark _)) (pe_and (pe_cmp (pc_ninK P w (pv 1) (pv 4))) (pe_and (pe_cmp (pc_ninK P w (pv 2) (pv 4))) (pe_one (pe_call GC hr1 (by rfl) gC kC bC .nil pass0 (pa_cons (pe_ngetK P w (pv 4) (pv 1) (fun _ _ => rfl)) (pa_cons (pe_ngetK P w (pv 4) (pv 2) (fun _ _ => rfl)) pa_nil))))))))))), ?_⟩
    refine ⟨_, rfl, _, rfl, by show 2 ≤ sizeLine; decide, fun t ht => ⟨t, _, rfl, .inr (SqT.of upd_same), fun J G wk hG => ?_⟩⟩
    have s1 := same_new (o := .tup [v, u]) ht
    have hh := hh.mono s1
    have hd := Dv.mono s1 hd
    have he := Dv.mono s1 he
    have q := fun H' s => q H' (s1.trans s)
    generalize upd H t (.tup [v, u]) = H1 at hh hd he q hG ⊢
    have test : ∀ {y : V} {dy : PyData} {x4 : Option V} {D : Ends}, Dv K H1 y dy → (lotD dy = none → D.rt (.bl false) H1) → ((lotD dy).isSome = true → D.nx [some (.ref a), some v, some u, some y, x4] H1) →
        tIfS (tAnd (tTest (tOp (fun x y H Q => y = V.non ∧ Q (V.bl !decide (x = V.non)) H) (tVar 3) (tC V.non))) (tOr (tNot (tB (tCB (rIsD K "int") (tCons (tVar 3) (tCons (tC (.ty "int")) tNil))))) (tB (tCB (rIsD K "bool") (tCons (tVar 3) (tCons (tC (.ty "bool")) tNil))))))
          (tRet (tC (.bl false))) tNext D [some (.ref a), some v, some u, some y, x4] H1 := by
      intro y dy x4 D hy no yes
      by_cases c : dy = .none
      · subst c
        cases hy
        exact ⟨_, rfl, rfl, false, rfl, iteF' (iteF' (yes rfl))⟩
      · refine ⟨_, rfl, rfl, true, ?_, iteT' ⟨_, rfl, y, dy, rfl, hy, isT "int" dy, rfl, ?_⟩⟩
        · cases hy <;> first | exact absurd rfl c | rfl
        · cases dy with
          | none => exact absurd rfl c
          | int i => exact iteF' ⟨_, rfl, y, _, rfl, hy, false, rfl, iteF' (yes rfl)⟩
          | bool b => exact iteF' ⟨_, rfl, y, _, rfl, hy, true, rfl, iteT' (no rfl)⟩
          | _ => exact iteT' (iteT' (no rfl))
    refine for_it wk (fun k σ H' => H' = H1 ∧ (1 ≤ k → (lotD d).isSome = true) ∧ (2 ≤ k → (lotD e).isSome = true) ∧ ∃ x3 x4, σ = [some (.ref a), some v, some u, x3, x4]) ⟨rfl, fun z => absurd z (by decide), fun z => absurd z (by decide), _, _, rfl⟩ (fun i σ H' _ e => hG _ (by rw [e.1]; exact Same.refl _)) ?_ ?_
    · rintro k x σ H2 H3 hk ⟨rfl, c1, c2, x3, x4, rfl⟩ ⟨rfl, hx⟩
      have hk2 : k < 2 := hk
      rcases k with _ | _ | k
      · obtain rfl : v = x := Option.some.inj hx
        exact nx_go (test hd (fun z => by have := q H3 (Same.refl _); rw [odds_no1 z] at this; exact this) fun z => ⟨rfl, fun _ => z, fun z => absurd z (by decide), _, _, rfl⟩)
      · obtain rfl : u = x := Option.some.inj hx
        exact nx_go (test he (fun z => by have := q H3 (Same.refl _); rw [odds_no2 z] at this; exact this) fun z => ⟨rfl, fun _ => c1 (Nat.le_refl _), fun _ => z, _, _, rfl⟩)
      · omega
    · rintro σ H2 ⟨rfl, c1, c2, x3, x4, rfl⟩
      have c1 := c1 (by show 1 ≤ 2; decide)
      have c2 := c2 (by show 2 ≤ 2; decide)
      obtain ⟨k, ek⟩ := Option.isSome_iff_exists.mp c1
      obtain ⟨l, el⟩ := Option.isSome_iff_exists.mp c2
      obtain rfl := lotD_some ek
      obtain rfl := lotD_some el
      obtain rfl := dv_oD hd
      obtain rfl := dv_oD he
      rw [odds_cross ok nb] at q
      refine ⟨_, rfl, a, rs, rfl, hh, hl, ok, nb, fun D H3 s3 lz => ?_⟩
      obtain ⟨kvs, hD, zd⟩ := lz
      have q := q H3 s3
      unfold crossB at q
      have sc : ∀ o u : Option Int, scal (oV o) (oV u) = true := fun o u => by cases o <;> cases u <;> rfl
      have zk := zd_val (k := k) zd
      have zl := zd_val (k := l) zd
      refine ⟨_, rfl, _, rfl, sc _ _, !decide (k = l), by rw [eq_oV], ?_⟩
      cases h1 : decide (k = l) with
      | true =>
        rw [h1] at q
        exact iteF' q
      | false =>
      rw [h1] at q
      refine iteT' ⟨_, rfl, _, rfl, D, kvs, nk k, rfl, .inl hD, (nk_v k).symm, (valV kvs (nk k)).isSome, rfl, ?_⟩
      by_cases hk : HasL rs k
      · rw [lz_some ok hk] at zk q
        obtain ⟨p, ep, hp⟩ := zk
        rw [ep]
        refine iteT' ⟨_, rfl, _, rfl, D, kvs, nk l, rfl, .inl hD, (nk_v l).symm, (valV kvs (nk l)).isSome, rfl, ?_⟩
        by_cases hl : HasL rs l
        · rw [lz_some ok hl] at zl q
          obtain ⟨p', ep', hp'⟩ := zl
          rw [ep']
          refine iteT' ⟨_, rfl, _, rfl, D, kvs, nk k, _, rfl, .inl hD, (nk_v k).symm, ep, ⟨_, rfl, _, rfl, D, kvs, nk l, _, rfl, .inl hD, (nk_v l).symm, ep', ?_⟩⟩
          exact ⟨p, p', _, _, _, _, rfl, hp, hp', q⟩
        · rw [lz_none hl] at zl q
          rw [show valV kvs (nk l) = none from zl]
          exact iteF' q
      · rw [lz_none hk] at zk q
        rw [show valV kvs (nk k) = none from zk]
        exact iteF' q
theorem scLIQ : FnScope ["rows", "word", "one", "other", "at"] ["rows", "word", "one", "other"] (defScope sLIQ) := ⟨rfl, rfl, rfl, by decide +kernel, rfl, by decide +kernel, by decide +kernel⟩
def inRange (n : Nat) (d : PyData) : Bool := match d with
  | .int i => decide (0 ≤ i) && decide (i < (n : Int))
  | _ => false
theorem fut_no1 {rs : List Row} {d e : PyData} (h : inRange rs.length d = false) : futB rs d e = false := by
  unfold futB
  cases d <;> cases e <;> first | rfl | skip
  rename_i i j
  have h : (decide (0 ≤ i) && decide (i < (rs.length : Int))) = false := h
  dsimp only
  cases c : decide (0 ≤ i) with
  | false => rfl
  | true =>
    rw [c, Bool.true_and] at h
    rw [h]
    rfl
theorem fut_no2 {rs : List Row} (ok : ∀ r ∈ rs, r.Ok) (nb : firstBad rs = none) {d e : PyData} (h : inRange rs.length e = false) : futB rs d e = false := by
  cases hf : futB rs d e with
  | false => rfl
  | true =>
    unfold futB at hf
    cases d <;> cases e <;> first | cases hf | skip
    rename_i i j
    dsimp only at hf
    rw [Bool.and_eq_true, Bool.and_eq_true] at hf
    obtain ⟨_, _, h3⟩ := hf
    cases er : rs[i.toNat]? with
    | none => rw [er] at h3; cases h3
    | some r =>
      rw [er] at h3
      dsimp only at h3
      rw [Bool.and_eq_true] at h3
      obtain ⟨m, s, rfl, es, _⟩ := told_at ok nb er (of_decide_eq_true h3.1)
      have := (List.getElem?_eq_some_iff.mp es).1
      have h : (decide (0 ≤ (m : Int)) && decide ((m : Int) < (rs.length : Int))) = false := h
      rw [decide_eq_true (show 0 ≤ (m : Int) by omega), decide_eq_true (show (m : Int) < (rs.length : Int) by omega)] at h
      cases h
theorem ok_liq {f : Addr} {fd : FuncData} (F : Fun K "_law_is_quarrel" "_law_is_quarrel" sLIQ f fd) (T : B1 mg) (crg : Cal P w K mg base "_law_crossing" 3 ["rows", "one", "other"] (spCrg K)) : FnOk P w K mg base CX0 4 f fd ["rows", "word", "one", "other"] (spLIQ K) := by
  obtain ⟨fC, dC, gC, GC, kC, bC⟩ := crg.ex
  refine F.ok scLIQ (fun vs H Q E h => ?_) (fun cdv A' outer s H vs Q E hr h => ?_)
  · obtain ⟨a, rs, x, c, v, d, u, e, rfl, _⟩ := h
    rfl
  · obtain ⟨a, rs, x, c, v, d, u, e, rfl, hh, hl, ok, nb, hc, cl, hd, he, q⟩ := h
    have hr3 : Room 3 _ := hr
    refine ⟨_, (pss_cons (ps_if (PW.pt (pw_or (pt_not (pt_val (pe_callB (call_isDK K (c := "str")) (by rfl) T.isi (by decide +kernel) (pa_cons (pv 1) (pa_cons (pe_bltn (v := .ty "str") (by rfl) T.str (by decide +kernel) rfl) pa_nil))))) (pw_or1 (pt_cmpR (op_notInTK K (room65 hr)) (pv 1) (pe_tup (pa_cons pe_str (pa_cons pe_str pa_nil))) (by rfl)))))
(pss_one (ps_ret pe_bl))
pss_nil)
(pss_cons (ps_if (pt_cmpR op_eq (pv 1) pe_str (nomark _))
(pss_one (ps_ret (pe_call GC hr3 (by rfl) gC kC bC .nil pass0 (pa_cons (pv 0) (pa_cons (pv 2) (pa_cons (pv 3) pa_nil))))))
pss_nil)
(pss_cons (ps_for PassesOwn.never rfl (pi_sq (pe_tup (pa_cons (pv 2) (pa_cons (pv 3) pa_nil)))) (pg_name (i := 4) scLIQ.nd rfl (Or.inl rfl))
(pss_one (ps_if (PW.pt (pw_or (pt_not (pt_val (pe_callB (call_isDK K (c := "int")) (by rfl) T.isi (by decide +kernel) (pa_cons (pv 4) (pa_cons (pe_bltn (v := .ty "int") (by rfl) T.int (by decide +kernel) rfl) pa_nil))))) (pw_or (pt_val (pe_callB (call_isDK K (c := "bool")) (by rfl) T.isi (by decide +kernel) (pa_cons (pv 4) (pa_cons (pe_bltn (v := .ty "bool") (by rfl) T.bool (by decide +kernel) rfl) pa_nil)))) (pw_or1 (pt_not (pt_chain op_le op_lt pe_int (pv 4) (pe_callB call_len (by rfl) T.len PySem.boot_len (pa_cons (pv 0) pa_nil))))))))
(pss_one (ps_ret pe_bl))
pss_nil)))
(pss_one (ps_ret (pe_and (pe_cmpR op_eq (pe_ix (ix_seqK K) (pe_ix (ix_seqK K) (pv 0) (pv 2) (fun _ _ => rfl)) pe_int (fun _ _ => rfl)) pe_str (nomark _)) (pe_and (pe_cmpR op_eq (pe_ix (ix_seqK K) (pe_ix (ix_seqK K) (pv 0) (pv 2) (fun _ _ => rfl)) pe_int (fun _ _ => rfl)) (pv 3) (nomark _)) (pe_and (pe_cmpR op_notN (pe_ix (ix_seqK K) (pe_ix (ix_seqK K) (pv 0) (pv 2) (fun _ _ => rfl)) pe_int (fun _ _ => rfl)) pe_non (nomark _)) (pe_one (pe_cmpR op_lt (pe_ix (ix_seqK K) (pe_ix (ix_seqK K) (pv 0) (pv 2) (fun _ _ => rfl)) pe_int (fun _ _ => rfl)) (pe_ix (ix_seqK K) (pe_ix (ix_seqK K) (pv 0) (pv 3) (fun _ _ => rfl)) pe_int (fun _ _ => rfl)) (nomark _))))))))))), ?_⟩
    refine ⟨x, rfl, x, c, rfl, hc, _, rfl, ?_⟩
    cases c with
    | str y =>
      cases hc
      have q : ∀ H', Same H H' → Q (.bl (if decide (y = "future") = true then futB rs d e else (decide (y = "lots") && oddsB rs d e))) H' := q
      refine iteF' ⟨_, rfl, by show 2 ≤ sizeLine; decide, fun t ht => ?_⟩
      have s1 := same_new (o := .tup [V.str "future", V.str "lots"]) ht
      refine ⟨.str y, [.str "future", .str "lots"], .str _, .tup (SqT.of upd_same) (.cons (.str _) (.cons (.str _) .nil)), ?_, by decide +kernel, !(decide (y = "future") || decide (y = "lots")), ?_, ?_⟩
      · unfold SeqAt.shaped
        rw [cl y rfl]
        rfl
      · show V.bl (!(decide (("future" : Str) = y) || (decide (("lots" : Str) = y) || false))) = _
        rw [Bool.or_false, decide_eq_decide.mpr (eq_comm (a := ("future" : Str)) (b := y)), decide_eq_decide.mpr (eq_comm (a := ("lots" : Str)) (b := y))]
      have hh := hh.mono s1
      have hd := Dv.mono s1 hd
      have he := Dv.mono s1 he
      have q := fun H' s => q H' (s1.trans s)
      generalize upd H t (.tup [V.str "future", V.str "lots"]) = H1 at hh hd he q ⊢
      by_cases e1 : y = "lots"
      · subst e1
        rw [show decide (("lots" : Str) = "future") = false from by decide +kernel, if_neg (by decide), decide_eq_true rfl, Bool.true_and] at q
        rw [show decide (("lots" : Str) = "future") = false from by decide +kernel, decide_eq_true rfl]
        exact iteF' ⟨_, rfl, rfl, true, rfl, iteT' ⟨_, rfl, _, rfl, _, rfl, a, rs, v, d, u, e, rfl, hh, hl, ok, nb, hd, he, q⟩⟩
      · have e1' : decide (y = "lots") = false := decide_eq_false e1
        rw [e1', Bool.or_false]
        rw [e1', Bool.false_and] at q
        by_cases e2 : y = "future"
        · rw [decide_eq_true e2, if_pos rfl] at q
          rw [decide_eq_true e2]
          refine iteF' ⟨_, rfl, rfl, false, congrArg V.bl (decide_eq_false fun z => e1 (V.str.inj z)), iteF' ?_⟩
          refine ⟨_, rfl, _, rfl, by show 2 ≤ sizeLine; decide, fun t2 ht2 => ⟨t2, _, rfl, .inr (SqT.of upd_same), fun J G wk hG => ?_⟩⟩
          have s2 := same_new (o := .tup [v, u]) ht2
          have hd := Dv.mono s2 hd
          have he := Dv.mono s2 he
          have q := fun H' s => q H' (s2.trans s)
          obtain ⟨ps, hr0, lp, hrow⟩ := hh.mono s2
          generalize upd H1 t2 (.tup [v, u]) = H2 at hd he q hr0 hrow hG ⊢
          have lps : (ps.map V.ref).length = rs.length := by rw [List.length_map, lp]
          have sq : Sq K H2 a (ps.map V.ref) := .inl (SqL.of hr0)
          refine for_it wk (fun k σ H' => H' = H2 ∧ (1 ≤ k → inRange rs.length d = true) ∧ (2 ≤ k → inRange rs.length e = true) ∧ ∃ x4, σ = [some (.ref a), some (.str y), some v, some u, x4]) ⟨rfl, fun z => absurd z (by decide), fun z => absurd z (by decide), _, rfl⟩ (fun i σ H' _ e => hG _ (by rw [e.1]; exact Same.refl _)) ?_ ?_
          · rintro k x σ H3 H4 hk ⟨rfl, c1, c2, x4, rfl⟩ ⟨rfl, hx⟩
            have hk2 : k < 2 := hk
            obtain ⟨dx, hxd, off, on⟩ : ∃ dx, Dv K H4 x dx ∧ (inRange rs.length dx = false → Q (.bl false) H4) ∧ (inRange rs.length dx = true → (1 ≤ k + 1 → inRange rs.length d = true) ∧ (2 ≤ k + 1 → inRange rs.length e = true)) := by
              rcases k with _ | _ | k
              · obtain rfl : v = x := Option.some.inj hx
                exact ⟨d, hd, fun z => by have := q H4 (Same.refl _); rw [fut_no1 z] at this; exact this, fun z => ⟨fun _ => z, fun z => absurd z (by decide)⟩⟩
              · obtain rfl : u = x := Option.some.inj hx
                exact ⟨e, he, fun z => by have := q H4 (Same.refl _); rw [fut_no2 ok nb z] at this; exact this, fun z => ⟨fun _ => c1 (Nat.le_refl _), fun _ => z⟩⟩
              · omega
            refine ⟨_, rfl, x, dx, rfl, hxd, isT "int" dx, rfl, ?_⟩
            cases dx with
            | int i =>
              cases hxd
              refine iteF' ⟨_, rfl, _, .int i, rfl, .int i, false, rfl, iteF' ?_⟩
              refine ⟨_, rfl, 0, i, rfl, rfl, decide (0 ≤ i), rfl, ?_⟩
              have off : (decide (0 ≤ i) && decide (i < (rs.length : Int))) = false → _ := off
              have on : (decide (0 ≤ i) && decide (i < (rs.length : Int))) = true → _ := on
              cases g1 : decide (0 ≤ i) with
              | false => exact iteF' ⟨false, rfl, iteT' (off (by rw [g1]; rfl))⟩
              | true =>
                refine iteT' ⟨_, rfl, _, (ps.map V.ref).length, rfl, sq.len, i, ((ps.map V.ref).length : Nat), rfl, rfl, decide (i < ((ps.map V.ref).length : Nat)), rfl, ?_⟩
                rw [lps]
                cases g2 : decide (i < (rs.length : Int)) with
                | false => exact iteT' (off (by rw [g1, g2]; rfl))
                | true =>
                  obtain ⟨z1, z2⟩ := on (by rw [g1, g2]; rfl)
                  exact iteF' ⟨rfl, z1, z2, _, rfl⟩
            | bool b => exact iteF' ⟨_, rfl, _, _, rfl, hxd, true, rfl, iteT' (iteT' (off rfl))⟩
            | _ => exact iteT' (iteT' (off rfl))
          · rintro σ H3 ⟨rfl, c1, c2, x4, rfl⟩
            replace c1 := c1 (by show 1 ≤ 2; decide)
            replace c2 := c2 (by show 2 ≤ 2; decide)
            obtain ⟨i, rfl⟩ : ∃ i, d = .int i := by cases d <;> first | exact ⟨_, rfl⟩ | cases c1
            obtain ⟨j, rfl⟩ : ∃ i, e = .int i := by cases e <;> first | exact ⟨_, rfl⟩ | cases c2
            cases hd
            cases he
            have c1 : (decide (0 ≤ i) && decide (i < (rs.length : Int))) = true := c1
            have c2 : (decide (0 ≤ j) && decide (j < (rs.length : Int))) = true := c2
            rw [Bool.and_eq_true] at c1 c2
            have i0 := of_decide_eq_true c1.1
            have i1 := of_decide_eq_true c1.2
            have j0 := of_decide_eq_true c2.1
            have j1 := of_decide_eq_true c2.2
            obtain ⟨m, rfl⟩ : ∃ m : Nat, i = m := ⟨i.toNat, by omega⟩
            obtain ⟨n, rfl⟩ : ∃ m : Nat, j = m := ⟨j.toNat, by omega⟩
            have lm : m < rs.length := by omega
            have ln : n < rs.length := by omega
            have em : rs[m]? = some rs[m] := List.getElem?_eq_getElem lm
            have en : rs[n]? = some rs[n] := List.getElem?_eq_getElem ln
            have lmp : m < ps.length := by omega
            have lnp : n < ps.length := by omega
            have am : atI (ps.map V.ref) (m : Int) = some (.ref ps[m]) := at_nat (by rw [List.getElem?_map, List.getElem?_eq_getElem lmp]; rfl)
            have an : atI (ps.map V.ref) (n : Int) = some (.ref ps[n]) := at_nat (by rw [List.getElem?_map, List.getElem?_eq_getElem lnp]; rfl)
            have hm := hrow m ps[m] rs[m] (List.getElem?_eq_getElem lmp) em
            have hn := hrow n ps[n] rs[n] (List.getElem?_eq_getElem lnp) en
            have tm : Sq K H3 ps[m] (rowV rs[m]) := .inr (SqT.of hm)
            have tn : Sq K H3 ps[n] (rowV rs[n]) := .inr (SqT.of hn)
            have mok := ok _ (List.getElem_mem lm)
            have q := q H3 (Same.refl _)
            have fe : futB rs (.int (m : Int)) (.int (n : Int)) = (decide (rs[m].t = some (n : Int)) && ahead rs[m] rs[n]) := by
              unfold futB
              dsimp only
              rw [decide_eq_true i0, decide_eq_true i1, Int.toNat_natCast, em]
              dsimp only
              rw [Int.toNat_natCast, en]
              rfl
            rw [fe] at q
            generalize rs[m] = r at tm mok q
            generalize rs[n] = s' at tn q
            refine ⟨_, rfl, _, rfl, Sq.ix sq am (Sq.ix tm rfl ⟨rfl, r.g, by cases r.g <;> decide +kernel, ?_⟩)⟩
            cases hg : r.g with
            | false =>
              have : r.t = none := by
                cases ht : r.t with
                | none => rfl
                | some t =>
                  have := (mok.tg t ht).1
                  rw [hg] at this
                  cases this
              rw [this, show decide ((none : Option Int) = some (n : Int)) = false from rfl] at q
              exact iteF' q
            | true =>
              refine iteT' ⟨_, rfl, _, rfl, Sq.ix sq am (Sq.ix tm rfl ⟨_, rfl, by cases r.t <;> rfl, decide (r.t = some (n : Int)), by rw [← eq_oV]; rfl, ?_⟩)⟩
              cases ct : decide (r.t = some (n : Int)) with
              | false =>
                rw [ct] at q
                exact iteF' q
              | true =>
                rw [ct, Bool.true_and] at q
                refine iteT' ⟨_, rfl, _, rfl, Sq.ix sq am (Sq.ix tm rfl ⟨rfl, r.e.isSome, by cases r.e <;> rfl, ?_⟩)⟩
                unfold ahead at q
                cases hE : r.e with
                | none =>
                  rw [hE] at q
                  exact iteF' q
                | some e' =>
                  rw [hE] at q
                  exact iteT' ⟨_, rfl, _, rfl, Sq.ix sq am (Sq.ix tm (show atI (rowV r) 3 = some (.int e') from by unfold rowV; rw [hE]; rfl) ⟨_, rfl, _, rfl, Sq.ix sq an (Sq.ix tn rfl ⟨e', s'.b, rfl, rfl, q⟩)⟩)⟩
        · rw [decide_eq_false e2, if_neg (by decide)] at q
          rw [decide_eq_false e2]
          exact iteT' (q H1 (Same.refl _))
    | _ => exact iteT' (iteT' (q _ (Same.refl H)))
end
end K37
end

section
set_option Elab.async false
set_option linter.all false
set_option maxRecDepth 100000
set_option maxHeartbeats 4000000
/-! what the law looks at; orders bent -/
namespace K37
open PySem PySem.Spec L2 KZ
abbrev sLk : Stmt := top 51
abbrev sBent : Stmt := top 50
/-- the heap without frozen dicts -/
def offD (H : Hp) : Hp := fun b => match H b with
  | some (.frz _ (.dK _)) => none
  | o => o
theorem offD_same (H : Hp) : Same (offD H) H := fun b o e => by
  unfold offD at e
  split at e
  · cases e
  · exact e
theorem offD_nof (H : Hp) : NoFrz (offD H) := fun b o kvs e => by
  have e2 := offD_same H _ _ e
  unfold offD at e
  rw [e2] at e
  cases e
theorem offD_of {G H : Hp} (s : Same G H) (n : NoFrz G) : Same G (offD H) := fun b o e => by
  unfold offD
  rw [s _ _ e]
  split
  · rename_i h
    cases h
    exact absurd e (n _ _ _)
  · rfl
theorem Cpb.off {K : PySem.W.Frag} {H : Hp} {v : V} {d : PyData} (h : Cpb K H v d) : Cp 1 d ∧ Dv K (offD H) v d := by
  obtain ⟨c, G, g1, g2, g3⟩ := h
  exact ⟨c, Dv.mono (offD_of g1 g2) g3⟩
theorem Cpb.of {K : PySem.W.Frag} {H : Hp} {v : V} {d : PyData} (c : Cp 1 d) (h : Dv K (offD H) v d) : Cpb K H v d := ⟨c, offD H, offD_same H, offD_nof H, h⟩
theorem sqT_off {K : PySem.W.Frag} {H : Hp} {a : Addr} {xs : List V} (h : SqT K H a xs) : SqT K (offD H) a xs := by
  rcases h with (h | ⟨o, h⟩) | h
  · exact .inl (.inl (by unfold offD; rw [h]))
  · exact .inl (.inr ⟨o, by unfold offD; rw [h]⟩)
  · exact .inr h
/-- plain values that hold no others -/
def okV : V → Bool
  | .non => true
  | .bl _ => true
  | .int _ => true
  | .str x => PyData.canLay0 (.str x)
  | _ => false
def scX : V → PyData
  | .bl b => .bool b
  | .int i => .int i
  | .str x => .str x
  | _ => .none
theorem okV_sc {x : V} (h : okV x = true) : scD (scX x) = true := by
  cases x <;> first | rfl | exact h | cases h
theorem okV_dv {K : PySem.W.Frag} {H : Hp} {x : V} (h : okV x = true) : Dv K H x (scX x) := by
  cases x <;> first | exact .non | exact .bl _ | exact .int _ | exact .str _ | cases h
theorem okV_dvs {K : PySem.W.Frag} {H : Hp} : ∀ {xs : List V}, (∀ x ∈ xs, okV x = true) → Dvs K H xs (xs.map scX)
  | [], _ => .nil
  | x :: xs, h => .cons (okV_dv (h x List.mem_cons_self)) (okV_dvs fun y m => h y (List.mem_cons_of_mem _ m))
theorem okV_all {xs : List V} (h : ∀ x ∈ xs, okV x = true) : (xs.map scX).all scD = true := by
  rw [List.all_eq_true]
  intro d m
  obtain ⟨x, mx, rfl⟩ := List.mem_map.mp m
  exact okV_sc (h x mx)
theorem sc_cp {d : PyData} (h : scD d = true) (n : Nat) : Cp n d := by
  cases d <;> first | (cases n <;> exact True.intro) | cases h
/-- what an order is bent to -/
structure Bent (K : PySem.W.Frag) (H : Hp) (v : V) (d : PyData) : Prop where
  fl : flatD d = true
  ln : lenD d ≤ 2000
  cp : Cpb K H v d
theorem Bent.mono {K : PySem.W.Frag} {H H' : Hp} {v : V} {d : PyData} (s : Same H H') (h : Bent K H v d) : Bent K H' v d := ⟨h.fl, h.ln, h.cp.mono s⟩
theorem Bent.tup {K : PySem.W.Frag} {H : Hp} {t : Addr} {xs : List V} (h : SqT K H t xs) (a : ∀ x ∈ xs, okV x = true) (l : xs.length ≤ 2000) : Bent K H (.ref t) (.tuple (xs.map scX)) :=
  ⟨okV_all a, by show (xs.map scX).length ≤ 2000; rw [List.length_map]; exact l, Cpb.of ⟨by rw [List.length_map]; exact l, fun d m => sc_cp (List.all_eq_true.mp (okV_all a) d m) 0⟩ (.tup (sqT_off h) (okV_dvs a))⟩
theorem Bent.lst {K : PySem.W.Frag} {H : Hp} {t : Addr} {xs : List V} (h : H t = some (.lst xs)) (a : ∀ x ∈ xs, okV x = true) (l : xs.length ≤ 2000) : Bent K H (.ref t) (.list (xs.map scX)) :=
  ⟨okV_all a, by show (xs.map scX).length ≤ 2000; rw [List.length_map]; exact l, Cpb.of ⟨by rw [List.length_map]; exact l, fun d m => sc_cp (List.all_eq_true.mp (okV_all a) d m) 0⟩ (.lst (SqL.of (by unfold offD; rw [h])) (okV_dvs a))⟩
theorem Cpb.sc {K : PySem.W.Frag} {H : Hp} {x : V} (a : okV x = true) : Cpb K H x (scX x) := Cpb.of (sc_cp (okV_sc a) 1) (okV_dv a)
theorem strOk_of (x : String) : PyData.strOk (Str.ofString x) = true := by
  unfold PyData.strOk
  rw [Str.ofString_eq_toList, Array.all_eq_true_iff_forall_mem]
  intro n m
  rw [List.mem_toArray] at m
  obtain ⟨c, _, rfl⟩ := List.mem_map.mp m
  have : c.val.toNat < 0xd800 ∨ (0xdfff < c.val.toNat ∧ c.val.toNat < 0x110000) := c.valid
  have h : c.toNat = c.val.toNat := rfl
  rw [decide_eq_true_iff, h]
  omega
section
variable {P : Program} {w : World} {K : PySem.W.Frag} {mg : Str → Option Value} {base : Heap} {C cB cT CO CQ : Addr}
theorem Ver.mono {H H' : Hp} {rs : List Row} {y : V} {b : Bool} (s : Same H H') (h : Ver K H CO CQ rs y b) : Ver K H' CO CQ rs y b := by
  rcases h with ⟨x, d, e, od, l, eb⟩ | ⟨x, d, e, g, e1, qd, eb⟩ | ⟨⟨t, ty, k1, k2⟩, eb⟩
  · exact .inl ⟨x, d, e, od.mono s, l, eb⟩
  · exact .inr (.inl ⟨x, d, e, g, e1, qd.mono s, eb⟩)
  · exact .inr (.inr ⟨⟨t, tyX_mono s ty, k1, k2⟩, eb⟩)
/-- Order(v) -/
theorem ord_go {H : Hp} {x dx : Addr} {v : V} {d : PyData} {Q : Hp → Prop} (hx : H x = none) (hdx : H dx = none) (ne : dx ≠ x) (c : Cpb K H v d) (k : ∀ H', Same H H' → OrdAt K CO H' x d → Q H') :
    spOrdI K CO [.ref x, v] (upd (upd H dx (.own x)) x (.ins CO dx [])) (fun v H2 => v = .non ∧ Q H2) E0 := by
  obtain ⟨cp, dv⟩ := c.off
  have s0 : Same H (upd (upd H dx (.own x)) x (.ins CO dx [])) := (same_new hdx).trans (same_new (by rw [upd_ne ne.symm]; exact hx))
  refine ⟨x, dx, v, d, offD H, rfl, upd_same, cp, (offD_same H).trans s0, offD_nof H, (offD_same H).free hx, dv, fun H' but od => ⟨rfl, k H' (fun b o e => but b o (ne_of_none e hx) (s0 b o e)) od⟩⟩
/-- Quarrel(v, u, y) -/
theorem qua_go {H : Hp} {x dx : Addr} {v u y : V} {d e g : PyData} {Q : Hp → Prop} (hx : H x = none) (hdx : H dx = none) (ne : dx ≠ x) (c1 : Cpb K H v d) (c2 : Cpb K H u e) (c3 : Cpb K H y g) (k : ∀ H', Same H H' → QuaAt K CQ H' x d e g → Q H') :
    spQuaI K CQ [.ref x, v, u, y] (upd (upd H dx (.own x)) x (.ins CQ dx [])) (fun v H2 => v = .non ∧ Q H2) E0 := by
  obtain ⟨cp1, dv1⟩ := c1.off
  obtain ⟨cp2, dv2⟩ := c2.off
  obtain ⟨cp3, dv3⟩ := c3.off
  have s0 : Same H (upd (upd H dx (.own x)) x (.ins CQ dx [])) := (same_new hdx).trans (same_new (by rw [upd_ne ne.symm]; exact hx))
  refine ⟨x, dx, v, d, u, e, y, g, offD H, rfl, upd_same, cp1, cp2, cp3, (offD_same H).trans s0, offD_nof H, (offD_same H).free hx, dv1, dv2, dv3, fun H' but od => ⟨rfl, k H' (fun b o e => but b o (ne_of_none e hx) (s0 b o e)) od⟩⟩
def spShowX (K : PySem.W.Frag) (C CO CQ : Addr) : Sp := fun vs H Q _ => ∃ a rs y b, vs = [.ref a, y] ∧ Hist K C H a rs ∧ rs.length ≤ 1000 ∧ (∀ r ∈ rs, r.Ok) ∧ firstBad rs = none ∧ Ver K H CO CQ rs y b ∧ ∀ H', Same H H' → Q (.bl b) H'
def spLk (K : PySem.W.Frag) (CO CQ : Addr) : Sp := fun vs H Q _ => ∃ a rs y b, vs = [.ref a, y] ∧ RowsAt H a rs ∧ rs.length ≤ 1000 ∧ (∀ r ∈ rs, r.Ok) ∧ (∀ r ∈ rs, r.c.length ≤ 1000) ∧ firstBad rs = none ∧ Ver K H CO CQ rs y b ∧ ∀ H', Same H H' → Q (.bl b) H'
theorem scLk : FnScope ["rows", "value", "row"] ["rows", "value"] (defScope sLk) := ⟨rfl, rfl, rfl, by decide +kernel, rfl, by decide +kernel, by decide +kernel⟩
theorem ok_lk {f : Addr} {fd : FuncData} (F : Fun K "_law_looked" "_law_looked" sLk f fd) (made : Cal P w K mg base "_law_made" 10 ["row"] (spMade C)) (sh : Cal P w K mg base "shows_order" 10 ["asks", "value"] (spShowX K C CO CQ)) : FnOk P w K mg base CX0 11 f fd ["rows", "value"] (spLk K CO CQ) := by
  obtain ⟨fM, dM, gM, GM, kM, bM⟩ := made.ex
  obtain ⟨fSh, dSh, gSh, GSh, kSh, bSh⟩ := sh.ex
  refine F.ok scLk (fun vs H Q E h => ?_) (fun cdv A' outer s H vs Q E hr h => ?_)
  · obtain ⟨a, rs, y, b, rfl, _⟩ := h
    rfl
  · obtain ⟨a, rs, y, b, rfl, hh, hl, ok, hs, nb, ver, q⟩ := h
    have hr10 : Room 10 _ := hr
    refine ⟨_, (pss_one (ps_ret (pe_call GSh hr10 (by rfl) gSh kSh bSh .nil pass0 (pa_cons (pe_lc (own := [("row", 2)]) (g := gName 2) (tt := tYes) (by rfl) scLk.nd (pi_list (pv 0)) (blkOk_by (own := [("row", 2)]) (N := ["rows", "value", "row"]) (sc := defScope sLk) (by decide +kernel)) (fun _ _ _ _ _ => pg_name (i := 2) scLk.nd rfl (Or.inl rfl)) (fun _ _ _ _ _ => pts_nil) (fun _ _ _ _ _ => pe_call GM hr10 (by rfl) gM kM bM .nil pass0 (pa_cons (pv 2) pa_nil))) (pa_cons (pv 1) pa_nil))))), ?_⟩
    obtain ⟨ps, ha, lp, hp⟩ := id hh
    refine ⟨.ref a, rfl, a, rfl, ⟨_, SqL.of ha⟩, fun M hM0 => made_lc hh ok hl hs hM0 (fun _ => rfl) (fun _ => rfl) fun ms H1 am hM s1 => ?_⟩
    exact ⟨_, rfl, M, rs, y, b, rfl, ⟨ms, .inl (SqL.of hM), am⟩, hl, ok, nb, ver.mono s1, fun H' s => q H' (s1.trans s)⟩
theorem cutV_whole {xs : List V} {lo hi : Option Int} (h : HT.sIx xs.length 0 lo = 0 ∧ HT.sIx xs.length xs.length hi = xs.length) : cutV xs lo hi = xs := by
  unfold cutV
  rw [h.1, h.2, List.drop_zero, Nat.sub_zero, List.take_of_length_le (Nat.le_refl _)]
theorem slA_go {H : Hp} {a : Addr} {xs : List V} {lo hi : Option Int} {Q : VK} (h : SqT K H a xs) (k : ∀ t H', SqT K H' t (cutV xs lo hi) → Same H H' → Q (.ref t) H') : rSlA K (.ref a) lo hi H Q :=
  ⟨a, xs, rfl, h, fun w => k a H (by rw [cutV_whole w]; exact h) (Same.refl H), fun _ p hp => k p _ (SqT.of upd_same) (same_new hp)⟩
theorem catA_go {H : Hp} {a b : Addr} {xs ys : List V} {Q : VK} (h1 : SqT K H a xs) (h2 : SqT K H b ys) (l : xs.length + ys.length ≤ 4000) (k : ∀ t H', SqT K H' t (xs ++ ys) → Same H H' → Q (.ref t) H') : rCatA K (.ref a) (.ref b) H Q := by
  refine ⟨a, b, xs, ys, rfl, rfl, h1, h2, Nat.le_trans l (by decide), fun e => k b H (by rw [e]; exact h2) (Same.refl H), fun _ e => k a H (by rw [e, List.append_nil]; exact h1) (Same.refl H), fun _ _ p hp => k p _ (SqT.of upd_same) (same_new hp)⟩
theorem cutV_mem {xs : List V} {lo hi : Option Int} {x : V} (h : x ∈ cutV xs lo hi) : x ∈ xs := List.mem_of_mem_drop (List.mem_of_mem_take h)
theorem pen_same {p c : Addr} {cells : List Int} {n : Nat} {H H' : Hp} (h : PenAt H p c cells n) (s : Same H H') : PenAt H' p c cells n := h.mono s (Nat.le_refl _)
end
end K37
end

section
set_option Elab.async false
set_option linter.all false
set_option maxRecDepth 100000
set_option maxHeartbeats 4000000
/-! an order bent -/
namespace K37
open PySem PySem.Spec L2 KZ
theorem sqT_kept {K : PySem.W.Frag} {H H' : Hp} {p c a : Addr} {cells : List Int} {n : Nat} {xs : List V} (pn : PenAt H p c cells n) (k : Kept p H H') (h : SqT K H a xs) : SqT K H' a xs := by
  obtain ⟨x, g, hp, _⟩ := pn.ex
  rcases h with (h | ⟨o, h⟩) | h
  · exact .inl (.inl (k _ _ (fun z => by rw [z, hp] at h; cases h) h))
  · exact .inl (.inr ⟨o, k _ _ (fun z => by rw [z, hp] at h; cases h) h⟩)
  · exact .inr h
theorem rows_kept {H H' : Hp} {p c a : Addr} {cells : List Int} {n : Nat} {rs : List Row} (pn : PenAt H p c cells n) (k : Kept p H H') (h : RowsAt H a rs) : RowsAt H' a rs := by
  obtain ⟨x, g, hp, _⟩ := pn.ex
  obtain ⟨ps, h1, h2, h3⟩ := h
  refine ⟨ps, k _ _ (fun z => ?_) h1, h2, fun i q r e1 e2 => k _ _ (fun z => ?_) (h3 i q r e1 e2)⟩
  · rw [z, hp] at h1
    have e := HO.lst.inj (Option.some.inj h1)
    rcases ps with _ | ⟨_, _ | ⟨_, _⟩⟩ <;> cases e
  · have := h3 i q r e1 e2
    unfold RowAt at this
    rw [z, hp] at this
    cases this
def spBent (K : PySem.W.Frag) : Sp := fun vs H Q _ => ∃ (p c a o : Addr) (cells : List Int) (n : Nat) (ys : List V) (ns : List Int), vs = [.ref p, .ref a, .ref o] ∧ PenAt H p c cells n ∧ n ≤ 9000 ∧ H a = some (.lst ys) ∧ a ≠ p ∧ ys.length ≤ 1000 ∧ SqT K H o (ns.map V.int) ∧ 0 < ns.length ∧ ns.length ≤ 1000 ∧ (∀ i ∈ ns, i.natAbs < 10 ^ 6) ∧
  ∀ v d H', Bent K H' v d → PenAt H' p c cells (n + 4) → Kept p H H' → Q v H'
theorem teq {w k : Int} : V.bl (decide (V.int w = V.int k)) = V.bl (decide (w = k)) := congrArg V.bl (decide_eq_decide.mpr ⟨V.int.inj, fun z => by rw [z]⟩)
theorem cut_lo (xs : List V) (i : Nat) : (cutV xs none (some (i : Int))).length ≤ i ∧ (cutV xs none (some (i : Int))).length ≤ xs.length := by
  unfold cutV
  rw [List.length_take, List.length_drop, HT.sIx_nat, HT.sIx_none]
  omega
theorem cut_hi (xs : List V) {z : Int} (k : Nat) (e : z = k) : (cutV xs (some z) none).length ≤ xs.length - k := by
  subst e
  unfold cutV
  rw [List.length_take, List.length_drop, HT.sIx_nat, HT.sIx_none]
  omega
theorem np_go {σ : L2.St} {H : Hp} {Q : Option Int → Hp → Prop} (h : Q none H) : tNoPart σ H Q := h
section
variable {P : Program} {w : World} {K : PySem.W.Frag} {mg : Str → Option Value} {base : Heap}
theorem scBent : FnScope ["well", "rows", "order", "way", "many", "at", "spot", "one", "left"] ["well", "rows", "order"] (defScope sBent) := ⟨rfl, rfl, rfl, by decide +kernel, rfl, by decide +kernel, by decide +kernel⟩
theorem ok_bent {f : Addr} {fd : FuncData} (F : Fun K "_law_bent" "_law_bent" sBent f fd) (T : B1 mg) (draw : Cal P w K mg base "_law_draw" 1 ["well", "many"] spDraw) (one : Cal P w K mg base "_law_one" 2 ["well", "some"] spOne) : FnOk P w K mg base CX0 3 f fd ["well", "rows", "order"] (spBent K) := by
  obtain ⟨fD, dD, gD, GD, kD, bD⟩ := draw.ex
  obtain ⟨fO, dO, gO_, GO, kO, bO⟩ := one.ex
  refine F.ok scBent (fun vs H Q E h => ?_) (fun cdv A' outer s H vs Q E hr h => ?_)
  · obtain ⟨p, c, a, o, cells, n, ys, ns, rfl, _⟩ := h
    rfl
  · obtain ⟨p, c, a, o, cells, n, ys, ns, rfl, pn, hn, ha, nap, yl, sq, n0, nl, sm, q⟩ := h
    have hr2 : Room 2 _ := hr
    have hr1 : Room 1 _ := hr.mono (by decide)
    refine ⟨_, (pss_cons (ps_par (i := 3) (j := 4) (by rfl) scBent.nd rfl rfl (by decide) rfl rfl (pa_cons (pe_call GD hr1 (by rfl) gD kD bD .nil pass0 (pa_cons (pv 0) (pa_cons pe_int pa_nil))) (pa_cons (pe_callB (call_lenK K) (by rfl) T.len PySem.boot_len (pa_cons (pv 2) pa_nil)) pa_nil)) (by rfl))
(pss_cons (ps_asg (pe_tup (pa_cons (pe_call GD hr1 (by rfl) gD kD bD .nil pass0 (pa_cons (pv 0) (pa_cons (pv 4) pa_nil))) (pa_cons (pe_call GD hr1 (by rfl) gD kD bD .nil pass0 (pa_cons (pv 0) (pa_cons (pv 4) pa_nil))) pa_nil))) (pg_tup rfl (pgs_cons (pg_name (i := 5) scBent.nd rfl (Or.inr rfl)) (pgs_cons (pg_name (i := 6) scBent.nd rfl (Or.inl rfl)) pgs_nil))))
(pss_cons (ps_if (pt_cmpR op_eq (pv 3) pe_int (nomark _))
(pss_one (ps_ret (pe_op (op_catAK K) (pe_slice (sl_tupAK K) (pv 2) po_none (po_some (pv 5))) (pe_slice (sl_tupAK K) (pv 2) (po_some (pe_op op_add (pv 5) pe_int)) po_none))))
pss_nil)
(pss_cons (ps_if (pt_cmpR op_eq (pv 3) pe_int (nomark _))
(pss_one (ps_ret (pe_op (op_catAK K) (pe_op (op_catAK K) (pe_slice (sl_tupAK K) (pv 2) po_none (po_some (pv 5))) (pe_tup (pa_cons (pe_ix (ix_seqK K) (pv 2) (pv 6) (fun _ _ => rfl)) pa_nil))) (pe_slice (sl_tupAK K) (pv 2) (po_some (pe_op op_add (pv 5) pe_int)) po_none))))
pss_nil)
(pss_cons (ps_if (pt_cmpR op_eq (pv 3) pe_int (nomark _))
(pss_one (ps_ret (pe_op (op_catAK K) (pe_op (op_catAK K) (pe_slice (sl_tupAK K) (pv 2) po_none (po_some (pv 5))) (pe_tup (pa_cons (pe_call GO hr2 (by rfl) gO_ kO bO .nil pass0 (pa_cons (pv 0) (pa_cons (pe_lst (pa_cons (pe_callB (call_lenK K) (by rfl) T.len PySem.boot_len (pa_cons (pv 1) pa_nil)) (pa_cons (pe_un un_neg pe_int) (pa_cons (pe_op op_sub (pe_callB (call_lenK K) (by rfl) T.len PySem.boot_len (pa_cons (pv 1) pa_nil)) pe_int) (pa_cons pe_int (pa_cons pe_int pa_nil)))))) pa_nil))) pa_nil))) (pe_slice (sl_tupAK K) (pv 2) (po_some (pv 5)) po_none))))
pss_nil)
(pss_cons (ps_if (pt_cmpR op_eq (pv 3) pe_int (nomark _))
(pss_one (ps_ret (pe_callTy call_list_of (by rfl) T.list (by decide +kernel) (pa_cons (pv 2) pa_nil))))
pss_nil)
(pss_cons (ps_if (pt_cmpR op_eq (pv 3) pe_int (nomark _))
(pss_one (ps_ret (pe_callTy call_tuple_of (by rfl) T.tuple (by decide +kernel) (pa_cons (pe_lc (own := [("one", 7)]) (g := gName 7) (tt := tYes) (by rfl) scBent.nd (pi_sq (pv 2)) (blkOk_by (own := [("one", 7)]) (N := ["well", "rows", "order", "way", "many", "at", "spot", "one", "left"]) (sc := defScope sBent) (by decide +kernel)) (fun _ _ _ _ _ => pg_name (i := 7) scBent.nd rfl (Or.inl rfl)) (fun _ _ _ _ _ => pts_nil) (fun _ _ _ _ _ => pe_ifExp (pt_cmpR op_lt (pv 7) pe_int (nomark _)) (pe_callTy call_bool1 (by rfl) T.bool (by decide +kernel) (pa_cons (pv 7) pa_nil)) (pv 7))) pa_nil))))
pss_nil)
(pss_cons (ps_if (pt_cmpR op_eq (pv 3) pe_int (nomark _))
(pss_one (ps_ret (pe_op (op_catAK K) (pe_op (op_catAK K) (pe_op (op_catAK K) (pe_slice (sl_tupAK K) (pv 2) po_none (po_some (pv 5))) (pe_slice (sl_tupAK K) (pv 2) (po_some (pe_op op_add (pv 5) pe_int)) (po_some (pe_op op_add (pv 5) pe_int)))) (pe_slice (sl_tupAK K) (pv 2) (po_some (pv 5)) (po_some (pe_op op_add (pv 5) pe_int)))) (pe_slice (sl_tupAK K) (pv 2) (po_some (pe_op op_add (pv 5) pe_int)) po_none))))
pss_nil)
(pss_cons (ps_if (pt_cmpR op_eq (pv 3) pe_int (nomark _))
(pss_cons (ps_set (i := 8) scBent.nd rfl (Or.inl rfl) (pe_op (op_catAK K) (pe_slice (sl_tupAK K) (pv 2) po_none (po_some (pv 5))) (pe_slice (sl_tupAK K) (pv 2) (po_some (pe_op op_add (pv 5) pe_int)) po_none)))
(pss_one (ps_ret (pe_op (op_catAK K) (pe_op (op_catAK K) (pe_slice (sl_tupAK K) (pv 8) po_none (po_some (pv 6))) (pe_tup (pa_cons (pe_ix (ix_seqK K) (pv 2) (pv 5) (fun _ _ => rfl)) pa_nil))) (pe_slice (sl_tupAK K) (pv 8) (po_some (pv 6)) po_none)))))
pss_nil)
(pss_one (ps_ret (pe_ifExp (pt_cmpR op_eq (pv 3) pe_int (nomark _)) (pe_revK K (pv 2) (pe_un un_neg pe_int)) (pe_callTy call_tuple_of (by rfl) T.tuple (by decide +kernel) (pa_cons (pe_lc (own := [("one", 7)]) (g := gName 7) (tt := tYes) (by rfl) scBent.nd (pi_sq (pv 2)) (blkOk_by (own := [("one", 7)]) (N := ["well", "rows", "order", "way", "many", "at", "spot", "one", "left"]) (sc := defScope sBent) (by decide +kernel)) (fun _ _ _ _ _ => pg_name (i := 7) scBent.nd rfl (Or.inl rfl)) (fun _ _ _ _ _ => pts_nil) (fun _ _ _ _ _ => pe_ifExp (pt_cmpR op_eq (pv 7) (pv 5) (nomark _)) (pe_callTy call_str_int (by rfl) T.str (by decide +kernel) (pa_cons (pv 7) pa_nil)) (pv 7))) pa_nil)))))))))))))), ?_⟩
    refine ⟨.ref p, rfl, p, c, cells, n, 9, rfl, pn, by omega, by decide, by decide, fun w H1 w0 w1 pn1 k1 => ?_⟩
    have sq := sqT_kept pn k1 sq
    refine ⟨.ref o, rfl, .ref o, (ns.map V.int).length, rfl, (Sq.len (.inr sq)), _, _, rfl, ?_⟩
    rw [List.length_map]
    refine ⟨.ref p, rfl, _, rfl, p, c, cells, n + 1, _, rfl, pn1, by omega, by omega, by omega, fun at_ H2 a0 a1 pn2 k2 => ?_⟩
    refine ⟨.ref p, rfl, _, rfl, p, c, cells, n + 2, _, rfl, pn2, by omega, by omega, by omega, fun sp H3 s0 s1 pn3 k3 => ?_⟩
    have sq := sqT_kept pn2 k3 (sqT_kept pn1 k2 sq)
    have k := k1.trans (k2.trans k3)
    refine ⟨by show 2 ≤ sizeLine; decide, fun t0 ht0 => ⟨t0, _, rfl, SqT.of upd_same, rfl, _, _, rfl, _, _, rfl, rfl, ?_⟩⟩
    have sm0 := same_new (o := .tup [.int at_, .int sp]) ht0
    have sq := sqT_mono sm0 sq
    have k := k.trans (Kept.of sm0)
    have pn := pn3.mono sm0 (Nat.le_refl _)
    have ha := k _ _ nap ha
    generalize upd H3 t0 (.tup [.int at_, .int sp]) = H4 at sq k pn ha ⊢
    clear pn1 pn2 pn3 k1 k2 k3 sm0
    obtain ⟨i, rfl⟩ : ∃ i : Nat, at_ = i := ⟨at_.toNat, by omega⟩
    obtain ⟨j, rfl⟩ : ∃ i : Nat, sp = i := ⟨sp.toNat, by omega⟩
    have il : i < ns.length := by omega
    have jl : j < ns.length := by omega
    have ai : atI (ns.map V.int) (i : Int) = some (.int ns[i]) := at_nat (by rw [List.getElem?_map, List.getElem?_eq_getElem il]; rfl)
    have aj : atI (ns.map V.int) (j : Int) = some (.int ns[j]) := at_nat (by rw [List.getElem?_map, List.getElem?_eq_getElem jl]; rfl)
    have sml : (ns.map V.int).length ≤ 1000 := by rw [List.length_map]; exact nl
    have sme : (ns.map V.int).length = ns.length := List.length_map _
    have oki : ∀ x ∈ ns.map V.int, okV x = true := fun x m => by
      obtain ⟨y, _, rfl⟩ := List.mem_map.mp m
      rfl
    have fin : ∀ t H' ys, SqT K H' t ys → (∀ y ∈ ys, okV y = true) → ys.length ≤ 2000 → Same H4 H' → Q (.ref t) H' := fun t H' ys st h1 h2 s => q _ _ H' (Bent.tup st h1 h2) (pn.mono s (by omega)) (k.trans (Kept.of s))
    have okc : ∀ {ys : List V} {lo hi : Option Int}, (∀ x ∈ ys, okV x = true) → ∀ x ∈ cutV ys lo hi, okV x = true := fun h x m => h x (cutV_mem m)
    have oka : ∀ {xs ys : List V}, (∀ x ∈ xs, okV x = true) → (∀ x ∈ ys, okV x = true) → ∀ x ∈ xs ++ ys, okV x = true := fun h1 h2 x m => (List.mem_append.mp m).elim (h1 x) (h2 x)
    have lc : ∀ {ys : List V} {lo hi : Option Int} {m : Nat}, ys.length ≤ m → (cutV ys lo hi).length ≤ m := fun h => Nat.le_trans (cutV_length _ _ _) h
    refine ⟨_, rfl, rfl, decide (w = 0), teq, ?_⟩
    cases decide (w = 0) with
    | true =>
      refine iteT' ⟨.ref o, rfl, _, rfl, i, rfl, slA_go sq fun t1 H5 q1 s5 => ?_⟩
      refine ⟨.ref o, rfl, _, rfl, i, 1, rfl, rfl, _, rfl, np_go (slA_go (sqT_mono s5 sq) fun t2 H6 q2 s6 => ?_)⟩
      refine catA_go (sqT_mono s6 q1) q2 ?_ fun t3 H7 q3 s7 => fin _ _ _ q3 (oka (okc oki) (okc oki)) ?_ (s5.trans (s6.trans s7))
      · have := cut_lo (ns.map V.int) i
        have := cut_hi (ns.map V.int) (z := (i : Int) + 1) (i + 1) (by omega)
        omega
      · rw [List.length_append]
        have := cut_lo (ns.map V.int) i
        have := cut_hi (ns.map V.int) (z := (i : Int) + 1) (i + 1) (by omega)
        omega
    | false =>
    refine iteF' ⟨_, rfl, rfl, decide (w = 1), teq, ?_⟩
    cases decide (w = 1) with
    | true =>
      refine iteT' ⟨.ref o, rfl, _, rfl, i, rfl, slA_go sq fun t1 H5 q1 s5 => ?_⟩
      refine ⟨.ref o, rfl, _, rfl, Sq.ix (.inr (sqT_mono s5 sq)) aj ⟨by show 1 ≤ sizeLine; decide, fun t2 ht2 => ?_⟩⟩
      have s6 := same_new (o := .tup [V.int ns[j]]) ht2
      have l1 := cut_lo (ns.map V.int) i
      have l2 := cut_hi (ns.map V.int) (z := (i : Int) + 1) (i + 1) (by omega)
      have o1 : ∀ x ∈ [V.int ns[j]], okV x = true := fun x m => by
        obtain rfl := List.mem_singleton.mp m
        rfl
      refine catA_go (sqT_mono s6 q1) (SqT.of upd_same) (by show _ + 1 ≤ 4000; omega) fun t3 H7 q3 s7 => ?_
      have sA := s5.trans (s6.trans s7)
      refine ⟨.ref o, rfl, _, rfl, i, 1, rfl, rfl, _, rfl, np_go (slA_go (sqT_mono sA sq) fun t4 H8 q4 s8 => ?_)⟩
      refine catA_go (sqT_mono s8 q3) q4 ?_ fun t5 H9 q5 s9 => fin _ _ _ q5 (oka (oka (okc oki) o1) (okc oki)) ?_ (sA.trans (s8.trans s9))
      · rw [List.length_append]
        show _ + 1 + _ ≤ 4000
        omega
      · rw [List.length_append, List.length_append]
        show _ + 1 + _ ≤ 2000
        omega
    | false =>
    refine iteF' ⟨_, rfl, rfl, decide (w = 2), teq, ?_⟩
    cases decide (w = 2) with
    | true =>
      refine iteT' ⟨.ref o, rfl, _, rfl, i, rfl, slA_go sq fun t1 H5 q1 s5 => ?_⟩
      have pn5 := pn.mono s5 (Nat.le_refl _)
      have ha5 := s5 _ _ ha
      refine ⟨.ref p, rfl, .ref a, rfl, .ref a, _, rfl, .inl ⟨_, SqL.of ha5, rfl⟩, 1, rfl, .ref a, rfl, .ref a, _, rfl, .inl ⟨_, SqL.of ha5, rfl⟩, _, 1, rfl, rfl, by show 5 ≤ sizeLine; decide, fun L hL => ?_⟩
      have s6 := same_new (o := .lst [V.int (ys.length : Nat), V.int (-1), V.int ((ys.length : Nat) - 1), V.int 0, V.int 1]) hL
      refine ⟨p, c, L, cells, n + 3, _, rfl, pn5.mono s6 (by omega), by omega, upd_same, (pn5.nn hL).1, by show 0 < 5; decide, by show 5 ≤ 100; decide, fun m x H7 ex pn7 k7 => ?_⟩
      obtain ⟨z, rfl⟩ : ∃ z, x = .int z := by
        rcases m with _ | _ | _ | _ | _ | m <;> first | exact ⟨_, (Option.some.inj ex).symm⟩ | cases ex
      have l1 := cut_lo (ns.map V.int) i
      have l2 := cut_hi (ns.map V.int) (z := (i : Int)) i rfl
      have o1 : ∀ x ∈ [V.int z], okV x = true := fun x m => by
        obtain rfl := List.mem_singleton.mp m
        rfl
      have pn6 := pn5.mono s6 (Nat.le_refl _)
      have q7 := sqT_kept pn6 k7 (sqT_mono s6 q1)
      have sq7 := sqT_kept pn6 k7 (sqT_mono s6 (sqT_mono s5 sq))
      refine ⟨by show 1 ≤ sizeLine; decide, fun t2 ht2 => ?_⟩
      have s8 := same_new (o := .tup [V.int z]) ht2
      refine catA_go (sqT_mono s8 q7) (SqT.of upd_same) (by show _ + 1 ≤ 4000; omega) fun t3 H9 q3 s9 => ?_
      have sA := s8.trans s9
      refine ⟨.ref o, rfl, _, rfl, i, rfl, np_go (slA_go (sqT_mono sA sq7) fun t4 H10 q4 s10 => ?_)⟩
      refine catA_go (sqT_mono s10 q3) q4 ?_ fun t5 H11 q5 s11 => q _ _ H11 (Bent.tup q5 (oka (oka (okc oki) o1) (okc oki)) ?_) (pn7.mono (sA.trans (s10.trans s11)) (by omega)) (k.trans ((Kept.of (s5.trans s6)).trans (k7.trans (Kept.of (sA.trans (s10.trans s11))))))
      · rw [List.length_append]
        show _ + 1 + _ ≤ 4000
        omega
      · rw [List.length_append, List.length_append]
        show _ + 1 + _ ≤ 2000
        omega
    | false =>
    refine iteF' ⟨_, rfl, rfl, decide (w = 3), teq, ?_⟩
    cases decide (w = 3) with
    | true =>
      refine iteT' ⟨.ref o, rfl, o, _, rfl, .inr sq, fun l hl => ?_⟩
      have s5 := same_new (o := .lst (ns.map V.int)) hl
      exact q _ _ _ (Bent.lst upd_same oki (by omega)) (pn.mono s5 (by omega)) (k.trans (Kept.of s5))
    | false =>
    refine iteF' ⟨_, rfl, rfl, decide (w = 4), teq, ?_⟩
    cases decide (w = 4) with
    | true =>
      refine iteT' ⟨_, rfl, o, _, rfl, .inr sq, fun J G wk hG D hD => ?_⟩
      refine lc_it wk (fun m H' => ∃ xs, H' = upd H4 D (.lst xs) ∧ xs.length = m ∧ ∀ x ∈ xs, okV x = true) ⟨[], rfl, rfl, fun _ m => nomatch m⟩ (fun i H' _ ⟨_, e, _⟩ => hG _ (by rw [e]; exact same_new hD)) ?_ ?_
      · rintro m x H5 H6 hm ⟨xs, rfl, xl, ox⟩ ⟨rfl, hx⟩
        have hm2 : m < ns.length := by rw [List.length_map] at hm; exact hm
        have ex : x = .int ns[m] := by
          rw [List.getElem?_map, List.getElem?_eq_getElem hm2] at hx
          exact (Option.some.inj hx).symm
        subst ex
        refine ⟨rfl, yes_go ⟨_, rfl, ns[m], 2, rfl, rfl, decide (ns[m] < 2), rfl, ?_⟩⟩
        have app : ∀ y, okV y = true → ∃ acc, upd H4 D (.lst xs) D = some (.lst acc) ∧ acc.length < sizeLine ∧ ∃ xs_1, upd (upd H4 D (.lst xs)) D (.lst (acc ++ [y])) = upd H4 D (.lst xs_1) ∧ xs_1.length = m + 1 ∧ ∀ x ∈ xs_1, okV x = true := fun y oy => by
          refine ⟨_, upd_same, Nat.lt_of_le_of_lt (show xs.length ≤ 1000 by omega) (by decide), _, upd_upd, by rw [List.length_append, xl]; rfl, oka ox fun z mz => ?_⟩
          obtain rfl := List.mem_singleton.mp mz
          exact oy
        cases decide (ns[m] < 2) with
        | true => exact iteT' ⟨_, rfl, .inl ⟨ns[m], rfl, app _ rfl⟩⟩
        | false => exact iteF' ⟨_, rfl, app _ rfl⟩
      · rintro H5 ⟨xs, rfl, xl, ox⟩
        refine ⟨D, xs, rfl, .inl ⟨SqL.of upd_same, fun l hl => ?_⟩⟩
        exact fin l _ xs (SqT.of upd_same) ox (by omega) ((same_new hD).trans (same_new hl))
    | false =>
    refine iteF' ⟨_, rfl, rfl, decide (w = 5), teq, ?_⟩
    cases decide (w = 5) with
    | true =>
      refine iteT' ⟨.ref o, rfl, _, rfl, i, rfl, slA_go sq fun t1 H5 q1 s5 => ?_⟩
      refine ⟨.ref o, rfl, _, rfl, i, 1, rfl, rfl, _, rfl, _, rfl, i, 2, rfl, rfl, _, rfl, slA_go (sqT_mono s5 sq) fun t2 H6 q2 s6 => ?_⟩
      have l1 := cut_lo (ns.map V.int) i
      have l2 : (cutV (ns.map V.int) (some ((i : Int) + 1)) (some ((i : Int) + 2))).length ≤ 1 := by
        unfold cutV
        rw [List.length_take, List.length_drop, show ((i : Int) + 1) = ((i + 1 : Nat) : Int) by omega, show ((i : Int) + 2) = ((i + 2 : Nat) : Int) by omega, HT.sIx_nat, HT.sIx_nat]
        omega
      have l3 : (cutV (ns.map V.int) (some (i : Int)) (some ((i : Int) + 1))).length ≤ 1 := by
        unfold cutV
        rw [List.length_take, List.length_drop, show ((i : Int) + 1) = ((i + 1 : Nat) : Int) by omega, HT.sIx_nat, HT.sIx_nat]
        omega
      have l4 := cut_hi (ns.map V.int) (z := (i : Int) + 2) (i + 2) (by omega)
      refine catA_go (sqT_mono s6 q1) q2 (by omega) fun t3 H7 q3 s7 => ?_
      have sA := s5.trans (s6.trans s7)
      refine ⟨.ref o, rfl, _, rfl, i, rfl, _, rfl, i, 1, rfl, rfl, _, rfl, slA_go (sqT_mono sA sq) fun t4 H8 q4 s8 => ?_⟩
      refine catA_go (sqT_mono s8 q3) q4 (by rw [List.length_append]; omega) fun t5 H9 q5 s9 => ?_
      have sB := sA.trans (s8.trans s9)
      refine ⟨.ref o, rfl, _, rfl, i, 2, rfl, rfl, _, rfl, np_go (slA_go (sqT_mono sB sq) fun t6 H10 q6 s10 => ?_)⟩
      refine catA_go (sqT_mono s10 q5) q6 (by rw [List.length_append, List.length_append]; omega) fun t7 H11 q7 s11 => fin _ _ _ q7 (oka (oka (oka (okc oki) (okc oki)) (okc oki)) (okc oki)) ?_ (sB.trans (s10.trans s11))
      rw [List.length_append, List.length_append, List.length_append]
      omega
    | false =>
    refine iteF' ⟨_, rfl, rfl, decide (w = 6), teq, ?_⟩
    cases decide (w = 6) with
    | true =>
      refine iteT' ⟨.ref o, rfl, _, rfl, i, rfl, slA_go sq fun t1 H5 q1 s5 => ?_⟩
      refine ⟨.ref o, rfl, _, rfl, i, 1, rfl, rfl, _, rfl, np_go (slA_go (sqT_mono s5 sq) fun t2 H6 q2 s6 => ?_)⟩
      have l1 := cut_lo (ns.map V.int) i
      have l2 := cut_hi (ns.map V.int) (z := (i : Int) + 1) (i + 1) (by omega)
      refine catA_go (sqT_mono s6 q1) q2 (by omega) fun t3 H7 q3 s7 => ?_
      have sA := s5.trans (s6.trans s7)
      have okl := oka (okc (lo := none) (hi := some (i : Int)) oki) (okc (lo := some ((i : Int) + 1)) (hi := none) oki)
      have ll : (cutV (ns.map V.int) none (some (i : Int)) ++ cutV (ns.map V.int) (some ((i : Int) + 1)) none).length ≤ 1000 := by
        rw [List.length_append]
        unfold cutV
        rw [List.length_take, List.length_drop, List.length_take, List.length_drop, List.length_map, show ((i : Int) + 1) = ((i + 1 : Nat) : Int) by omega, HT.sIx_nat, HT.sIx_nat, HT.sIx_none, HT.sIx_none]
        omega
      generalize cutV (ns.map V.int) none (some (i : Int)) ++ cutV (ns.map V.int) (some ((i : Int) + 1)) none = lf at q3 okl ll
      have l3 := cut_lo lf j
      have l4 := cut_hi lf (z := (j : Int)) j rfl
      refine ⟨.ref t3, rfl, _, rfl, j, rfl, slA_go q3 fun t4 H8 q4 s8 => ?_⟩
      refine ⟨.ref o, rfl, _, rfl, Sq.ix (.inr (sqT_mono (sA.trans s8) sq)) ai ⟨by show 1 ≤ sizeLine; decide, fun t5 ht5 => ?_⟩⟩
      have s9 := same_new (o := .tup [V.int ns[i]]) ht5
      have o1 : ∀ x ∈ [V.int ns[i]], okV x = true := fun x m => by
        obtain rfl := List.mem_singleton.mp m
        rfl
      refine catA_go (sqT_mono s9 q4) (SqT.of upd_same) (by show _ + 1 ≤ 4000; omega) fun t6 H10 q6 s10 => ?_
      have sB := s8.trans (s9.trans s10)
      refine ⟨.ref t3, rfl, _, rfl, j, rfl, np_go (slA_go (sqT_mono sB q3) fun t7 H11 q7 s11 => ?_)⟩
      refine catA_go (sqT_mono s11 q6) q7 ?_ fun t8 H12 q8 s12 => fin _ _ _ q8 (oka (oka (okc okl) o1) (okc okl)) ?_ (sA.trans (sB.trans (s11.trans s12)))
      · rw [List.length_append]
        show _ + 1 + _ ≤ 4000
        omega
      · rw [List.length_append, List.length_append]
        show _ + 1 + _ ≤ 2000
        omega
    | false =>
    refine iteF' ⟨_, rfl, rfl, decide (w = 7), teq, ?_⟩
    cases decide (w = 7) with
    | true =>
      refine iteT' ⟨.ref o, rfl, 1, rfl, rfl, o, _, rfl, sq, fun l hl => ?_⟩
      exact fin l _ _ (SqT.of upd_same) (fun x m => oki x (List.mem_reverse.mp m)) (by rw [List.length_reverse]; omega) (same_new hl)
    | false =>
      refine iteF' ⟨_, rfl, o, _, rfl, .inr sq, fun J G wk hG D hD => ?_⟩
      refine lc_it wk (fun m H' => ∃ xs, H' = upd H4 D (.lst xs) ∧ xs.length = m ∧ ∀ x ∈ xs, okV x = true) ⟨[], rfl, rfl, fun _ m => nomatch m⟩ (fun i H' _ ⟨_, e, _⟩ => hG _ (by rw [e]; exact same_new hD)) ?_ ?_
      · rintro m x H5 H6 hm ⟨xs, rfl, xl, ox⟩ ⟨rfl, hx⟩
        have hm2 : m < ns.length := by rw [List.length_map] at hm; exact hm
        have ex : x = .int ns[m] := by
          rw [List.getElem?_map, List.getElem?_eq_getElem hm2] at hx
          exact (Option.some.inj hx).symm
        subst ex
        refine ⟨rfl, yes_go ⟨_, rfl, _, rfl, rfl, decide (ns[m] = (i : Int)), teq, ?_⟩⟩
        have app : ∀ y, okV y = true → ∃ acc, upd H4 D (.lst xs) D = some (.lst acc) ∧ acc.length < sizeLine ∧ ∃ xs_1, upd (upd H4 D (.lst xs)) D (.lst (acc ++ [y])) = upd H4 D (.lst xs_1) ∧ xs_1.length = m + 1 ∧ ∀ x ∈ xs_1, okV x = true := fun y oy => by
          refine ⟨_, upd_same, Nat.lt_of_le_of_lt (show xs.length ≤ 1000 by omega) (by decide), _, upd_upd, by rw [List.length_append, xl]; rfl, oka ox fun z mz => ?_⟩
          obtain rfl := List.mem_singleton.mp mz
          exact oy
        have sn := sm _ (List.getElem_mem hm2)
        cases decide (ns[m] = (i : Int)) with
        | true =>
          refine iteT' ⟨_, rfl, ns[m], rfl, ?_, app _ (strOk_of _)⟩
          by_cases z : ns[m].natAbs = 0
          · rw [z]; decide
          · exact (Nat.log2_lt z).mpr (Nat.lt_of_lt_of_le sn (Nat.le_trans (show (10 : Nat) ^ 6 ≤ 2 ^ 44 by decide) (Nat.pow_le_pow_right (by decide) (show 44 ≤ 1920 by decide))))
        | false => exact iteF' ⟨_, rfl, app _ rfl⟩
      · rintro H5 ⟨xs, rfl, xl, ox⟩
        refine ⟨D, xs, rfl, .inl ⟨SqL.of upd_same, fun l hl => ?_⟩⟩
        exact fin l _ xs (SqT.of upd_same) ox (by omega) ((same_new hD).trans (same_new hl))
end
end K37
end

section
set_option Elab.async false
set_option linter.all false
set_option maxRecDepth 100000
set_option maxHeartbeats 4000000
/-! orders that are right -/
namespace K37
open PySem PySem.Spec PyProof.Rows L2 KZ
abbrev sOR : Stmt := top 52
theorem bool_tell' (b : Bool) : Tell (.bool b) := (sm_bool b).tell (by decide) (by decide)
mutual
def nol : PyData → Bool
  | .list _ => false
  | .tuple ds => nols ds
  | .dict ps => noks ps
  | _ => true
def nols : List PyData → Bool
  | [] => true
  | d :: r => nol d && nols r
def noks : List (PyData × PyData) → Bool
  | [] => true
  | p :: r => nol p.2 && noks r
end
theorem dv_kept {K : PySem.W.Frag} {H H' : Hp} {p c : Addr} {cells : List Int} {n : Nat} (pn : PenAt H p c cells n) (k : Kept p H H') {v : V} {d : PyData} (h : Dv K H v d) : nol d = true → Dv K H' v d := by
  refine Dv.rec (motive_1 := fun v d _ => nol d = true → Dv K H' v d) (motive_2 := fun vs ds _ => nols ds = true → Dvs K H' vs ds) (motive_3 := fun kvs ps _ => noks ps = true → Dks K H' kvs ps) (fun _ => .non) (fun b _ => .bl b) (fun i _ => .int i) (fun x _ => .str x) ?_ ?_ ?_ (fun _ => .nil) ?_ (fun _ => .nil) ?_ h
  · intro a xs ds h1 _ ih z
    cases z
  · intro a xs ds h1 _ ih z
    exact .tup (sqT_kept pn k h1) (ih z)
  · intro a kvs ps h1 _ ih z
    obtain ⟨x, g, hp, _⟩ := pn.ex
    refine .dic ?_ (ih z)
    rcases h1 with h1 | ⟨o, h1⟩
    · exact .inl (k _ _ (fun z => by rw [z, hp] at h1; cases h1) h1)
    · exact .inr ⟨o, k _ _ (fun z => by rw [z, hp] at h1; cases h1) h1⟩
  · intro v vs d ds _ _ i j z
    have ⟨z1, z2⟩ := Bool.and_eq_true_iff.mp (show (nol d && nols ds) = true from z)
    exact .cons (i z1) (j z2)
  · intro q v kvs d ps _ _ i j z
    have ⟨z1, z2⟩ := Bool.and_eq_true_iff.mp (show (nol _ && noks ps) = true from z)
    exact .cons (i z1) (j z2)
theorem noVer_dv {K : PySem.W.Frag} {mg : Str → Option Value} {CO CQ : Addr} {H : Hp} {v : V} {d : PyData} (AO : OrdC K mg CO) (AQ : QuaC K mg CQ CO) (h : Dv K H v d) : NoVer K H CO CQ v := by
  have m : tyN d ∈ ["NoneType", "bool", "int", "str", "list", "tuple", "dict"] := by cases d <;> simp [tyN]
  exact ⟨_, Dv.ty h, AO.no _ m, AQ.no _ m⟩
theorem shaped_tup (l : List Int) : SeqAt.shaped (.tuple (l.map PyData.int)) = true := by
  unfold SeqAt.shaped
  rw [show PyData.canLay0 (.tuple (l.map PyData.int)) = PyData.canLayAll0 (l.map PyData.int) from rfl, can_ints, decide_eq_true (show PyData.depth (.tuple (l.map PyData.int)) ≤ 64 from (by show PyData.depthAll (l.map PyData.int) + 1 ≤ 64; rw [depth_ints]; decide))]
  rfl
/-- what makes an order -/
structure MkO (P : Program) (w : World) (K : PySem.W.Frag) (mg : Str → Option Value) (base : Heap) (CO : Addr) : Prop where
  ex : ∃ f fd, Mk K CO f ∧ FnOk P w K mg base CX0 3 f fd ["self", "indexes"] (spOrdI K CO) ∧ Binds K fd ["self", "indexes"] []
structure MkQ (P : Program) (w : World) (K : PySem.W.Frag) (mg : Str → Option Value) (base : Heap) (CQ : Addr) : Prop where
  ex : ∃ f fd, Mk K CQ f ∧ FnOk P w K mg base CX0 3 f fd ["self", "word", "one", "other"] (spQuaI K CQ) ∧ Binds K fd ["self", "word", "one", "other"] []
def swap2 {α : Type} : List α → List α → List α
  | [], [a, b] => [b, a]
  | _, _ => []
structure ShowK (P : Program) (w : World) (K : PySem.W.Frag) (mg : Str → Option Value) (base : Heap) (C CO CQ : Addr) : Prop where
  ex : ∃ f fd, mg "shows_order" = some (.ref f) ∧ FnOk P w K mg base CX0 10 f fd ["asks", "value"] (spShowX K C CO CQ) ∧ PySem.W.keepIn K (.ref f) = true ∧ Binds K fd ["asks", "value"] [] ∧ KBinds K fd ["asks", "value"] ["value", "asks"] swap2 swap2
theorem ord_kept {K : PySem.W.Frag} {H H' : Hp} {p c : Addr} {cells : List Int} {n : Nat} {CO x : Addr} {d : PyData} (pn : PenAt H p c cells n) (k : Kept p H H') (h : OrdAt K CO H x d) (z : nol d = true) : OrdAt K CO H' x d := by
  obtain ⟨x', g, hp, _⟩ := pn.ex
  obtain ⟨dx, v, h1, h2⟩ := h
  exact ⟨dx, v, k _ _ (fun z => by rw [z, hp] at h1; cases h1) h1, dv_kept pn k h2 z⟩
def spOR (K : PySem.W.Frag) : Sp := fun vs H Q _ => ∃ (p c a o : Addr) (cells : List Int) (n : Nat) (rs : List Row) (os : List Nat), vs = [.ref p, .ref a, .ref o] ∧ PenAt H p c cells n ∧ n ≤ 8000 ∧ RowsAt H a rs ∧ rs.length ≤ 1000 ∧ (∀ r ∈ rs, r.Ok) ∧ (∀ r ∈ rs, r.c.length ≤ 1000) ∧ firstBad rs = none ∧ SqT K H o (nats os) ∧ orderB rs (.tuple ((natsI os).map .int)) = true ∧
  ∀ H', PenAt H' p c cells (n + 30) → Kept p H H' → Q (.bl true) H'
section
variable {P : Program} {w : World} {K : PySem.W.Frag} {mg : Str → Option Value} {base : Heap} {C CO CQ : Addr}
theorem scOR : FnScope ["well", "rows", "order", "row", "turn", "bent", "odd"] ["well", "rows", "order"] (defScope sOR) := ⟨rfl, rfl, rfl, by decide +kernel, rfl, by decide +kernel, by decide +kernel⟩
theorem ok_or (hmd : ModsD base) {f : Addr} {fd : FuncData} (F : Fun K "_law_order_right" "_law_order_right" sOR f fd) (T : B1 mg) (AO : OrdC K mg CO) (AQ : QuaC K mg CQ CO) (mko : MkO P w K mg base CO) (sh : ShowK P w K mg base C CO CQ) (lk : Cal P w K mg base "_law_looked" 11 ["rows", "value"] (spLk K CO CQ))
    (made : Cal P w K mg base "_law_made" 10 ["row"] (spMade C)) (bent : Cal P w K mg base "_law_bent" 3 ["well", "rows", "order"] (spBent K)) (iso : Cal P w K mg base "_law_is_order" 2 ["rows", "indexes"] (spLIO K)) (one : Cal P w K mg base "_law_one" 2 ["well", "some"] spOne) :
    FnG P w K mg base CX0 12 f fd ["well", "rows", "order"] (spOR K) := by
  obtain ⟨fOi, dOi, MO, GOi, bOi⟩ := mko.ex
  obtain ⟨fSh, dSh, gSh, GSh, kSh, bSh, kbSh⟩ := sh.ex
  obtain ⟨fLk, dLk, gLk, GLk, kLk, bLk⟩ := lk.ex
  obtain ⟨fM, dM, gM, GM, kM, bM⟩ := made.ex
  obtain ⟨fB, dB, gB, GB, kB, bB⟩ := bent.ex
  obtain ⟨fIO, dIO, gIO, GIO, kIO, bIO⟩ := iso.ex
  obtain ⟨fO, dO, gO_, GO, kO, bO⟩ := one.ex
  refine okG F scOR (fun vs H Q E h => ?_) (fun cdv A' outer s0 H vs Q E hgd hr h => ?_)
  · obtain ⟨p, c, a, o, cells, n, rs, os, rfl, _⟩ := h
    rfl
  · obtain ⟨p, c, a, o, cells, n, rs, os, rfl, pn, hn, hh, hl, ok, hs, nb, sq, full, q⟩ := h
    have hr11 : Room 11 _ := hr
    have hr10 : Room 10 _ := hr.mono (by decide)
    have hr4 : Room 4 _ := hr.mono (by decide)
    have hr3 : Room 3 _ := hr.mono (by decide)
    have hr2 : Room 2 _ := hr.mono (by decide)
    refine ⟨_, (pss_cons (ps_if (PW.pt (pw_or (pt_cmpR op_notBl (pe_call GLk hr11 (by rfl) gLk kLk bLk .nil pass0 (pa_cons (pv 1) (pa_cons (pe_make MO GOi hr4 (by rfl) AO.mg bOi .nil pass0 (pa_cons (pv 2) pa_nil)) pa_nil))) pe_bl (nomark _)) (pw_or1 (pt_cmpR op_notBl (pe_callK0 GSh hr10 (by rfl) gSh kSh kbSh pass0 (pk_cons (pe_make MO GOi hr4 (by rfl) AO.mg bOi .nil pass0 (pa_cons (pv 2) pa_nil)) (pk_cons (pe_callTy (call_tupK K) (by rfl) T.tuple (by decide +kernel) (pa_cons (pe_lc (own := [("row", 3)]) (g := gName 3) (tt := tYes) (by rfl) scOR.nd (pi_list (pv 1)) (blkOk_by (own := [("row", 3)]) (N := ["well", "rows", "order", "row", "turn", "bent", "odd"]) (sc := defScope sOR) (by decide +kernel)) (fun _ _ _ _ _ => pg_name (i := 3) scOR.nd rfl (Or.inl rfl)) (fun _ _ _ _ _ => pts_nil) (fun _ _ _ _ _ => pe_call GM hr10 (by rfl) gM kM bM .nil pass0 (pa_cons (pv 3) pa_nil))) pa_nil)) pk_nil))) pe_bl (nomark _)))))
(pss_one (ps_ret pe_bl))
pss_nil)
(pss_cons (ps_for PassesOwn.never rfl (pi_range1 (by rfl) T.range (pa_cons pe_int pa_nil)) (pg_name (i := 4) scOR.nd rfl (Or.inl rfl))
(pss_cons (ps_set (i := 5) scOR.nd rfl (Or.inl rfl) (pe_ifExp (pt_cmpR (op_neD hr.units) (pv 2) (pe_tup pa_nil) (nomark _)) (pe_call GB hr3 (by rfl) gB kB bB .nil pass0 (pa_cons (pv 0) (pa_cons (pv 1) (pa_cons (pv 2) pa_nil)))) (pe_tup (pa_cons pe_int pa_nil))))
(pss_one (ps_if (pt_cmpR op_ne (pe_callB (call_reprK K hgd hr.units hmd) (by rfl) T.repr (by decide +kernel) (pa_cons (pe_call GLk hr11 (by rfl) gLk kLk bLk .nil pass0 (pa_cons (pv 1) (pa_cons (pe_make MO GOi hr4 (by rfl) AO.mg bOi .nil pass0 (pa_cons (pv 5) pa_nil)) pa_nil))) pa_nil)) (pe_callB (call_reprK K hgd hr.units hmd) (by rfl) T.repr (by decide +kernel) (pa_cons (pe_call GIO hr2 (by rfl) gIO kIO bIO .nil pass0 (pa_cons (pv 1) (pa_cons (pv 5) pa_nil))) pa_nil)) (nomark _))
(pss_one (ps_ret pe_bl))
pss_nil))))
(pss_cons (ps_set (i := 6) scOR.nd rfl (Or.inl rfl) (pe_call GO hr2 (by rfl) gO_ kO bO .nil pass0 (pa_cons (pv 0) (pa_cons (pe_lst (pa_cons pe_non (pa_cons pe_int (pa_cons (pv 2) (pa_cons (pe_lst (pa_cons (pe_make MO GOi hr4 (by rfl) AO.mg bOi .nil pass0 (pa_cons (pv 2) pa_nil)) pa_nil)) (pa_cons (pe_make MO GOi hr4 (by rfl) AO.mg bOi .nil pass0 (pa_cons pe_non pa_nil)) (pa_cons (pe_make MO GOi hr4 (by rfl) AO.mg bOi .nil pass0 (pa_cons pe_str pa_nil)) (pa_cons (pe_make MO GOi hr4 (by rfl) AO.mg bOi .nil pass0 (pa_cons (pe_disp (pps_cons pe_int pe_int pps_nil) (by rfl) (by rfl) (fun z => by cases z) (by decide)) pa_nil)) (pa_cons (pe_make MO GOi hr4 (by rfl) AO.mg bOi .nil pass0 (pa_cons (pe_tup (pa_cons pe_non pa_nil)) pa_nil)) (pa_cons pe_bl pa_nil)))))))))) pa_nil))))
(pss_one (ps_ret (pe_cmpR op_isBl (pe_call GLk hr11 (by rfl) gLk kLk bLk .nil pass0 (pa_cons (pv 1) (pa_cons (pv 6) pa_nil))) pe_bl (nomark _))))))), ?_⟩
    obtain ⟨o', ho⟩ : ∃ o', partsIn rs (.tuple ((natsI os).map .int)) = some o' := by
      cases hP : partsIn rs (.tuple ((natsI os).map .int)) with
      | none =>
        unfold orderB at full
        rw [hP] at full
        cases full
      | some o' => exact ⟨o', rfl⟩
    obtain ⟨eo, pmo⟩ := partsIn_perm ho
    have eo : natsI os = natsI o' := (List.map_inj_right fun x y z => PyData.int.inj z).mp (PyData.tuple.inj eo)
    have lo : ∀ i ∈ natsI os, i.natAbs < 10 ^ 6 := fun i m => by
      rw [eo] at m
      obtain ⟨k, mk, rfl⟩ := List.mem_map.mp m
      obtain ⟨r, er⟩ := part_row (pmo.mem_iff.mp mk)
      have := (List.getElem?_eq_some_iff.mp er).1
      show k < 10 ^ 6
      omega
    have ol : os.length ≤ 1000 := by
      have := congrArg List.length eo
      unfold natsI at this
      rw [List.length_map, List.length_map] at this
      have p1 := parts_le rs
      have := pmo.length_eq
      omega
    have sqI : ∀ {H' : Hp}, SqT K H' o (nats os) → SqT K H' o ((natsI os).map V.int) := fun h => by
      rw [nats_ints] at h
      exact h
    have okn : ∀ x ∈ nats os, okV x = true := fun x m => by
      unfold nats at m
      obtain ⟨y, _, rfl⟩ := List.mem_map.mp m
      rfl
    have scn : (nats os).map scX = (natsI os).map .int := by
      rw [nats_ints, List.map_map]
      rfl
    have nl : (nats os).length ≤ 2000 := by unfold nats; rw [List.length_map]; omega
    have bo : ∀ {H' : Hp}, SqT K H' o (nats os) → Bent K H' (.ref o) (.tuple ((natsI os).map .int)) := fun h => by
      rw [← scn]
      exact Bent.tup h okn nl
    refine ⟨_, rfl, _, rfl, fun x1 d1 hx1 hd1 ne1 => ord_go hx1 hd1 ne1 (bo sq).cp fun H1 s1 od1 => ?_⟩
    refine ⟨a, rs, .ref x1, true, rfl, hh.mono s1, hl, ok, hs, nb, .inl ⟨x1, _, rfl, od1, (bo sq).ln, full.symm⟩, fun H2 s2 => ⟨true, true, rfl, rfl, false, rfl, iteF' ?_⟩⟩
    have sA := s1.trans s2
    have sq2 := sqT_mono sA sq
    have hh2 := hh.mono sA
    refine ⟨_, rfl, fun x2 d2 hx2 hd2 ne2 => ord_go hx2 hd2 ne2 (bo sq2).cp fun H3 s3 od3 => ?_⟩
    obtain ⟨ps, ha3, _⟩ := hh2.mono s3
    refine ⟨_, rfl, a, rfl, ⟨_, SqL.of ha3⟩, fun M hM0 => made_lc (hh2.mono s3) ok hl hs hM0 (fun _ => rfl) (fun _ => rfl) fun ms H4 am hM s4 => ?_⟩
    refine ⟨M, _, rfl, .inl ⟨SqL.of hM, fun t ht => ?_⟩⟩
    have s5 := same_new (o := .tup (ms.map V.ref)) ht
    refine ⟨t, rs, .ref x2, true, rfl, ⟨ms, .inr (SqT.of upd_same), ask_mono s5 am⟩, hl, ok, nb, .inl ⟨x2, _, rfl, (od3.mono s4).mono s5, (bo sq2).ln, full.symm⟩, fun H6 s6 => ⟨true, true, rfl, rfl, false, rfl, iteF' ?_⟩⟩
    have sB := sA.trans (s3.trans (s4.trans (s5.trans s6)))
    have sq6 := sqT_mono sB sq
    have hh6 := hh.mono sB
    have pn6 := pn.mono sB (Nat.le_refl _)
    refine ⟨5, rfl, by decide, by decide, for_range (n := 5) (fun i σ H' => ∃ x4 x5, σ = [some (.ref p), some (.ref a), some (.ref o), none, x4, x5, none] ∧ PenAt H' p c cells (n + 4 * i) ∧ Kept p H6 H') ⟨_, _, rfl, pn6, Kept.of (Same.refl _)⟩ ?_ ?_⟩
    · rintro i σ H7 hi ⟨x4, x5, rfl, pn7, k7⟩
      have hh7 := rows_kept pn6 k7 hh6
      have sq7 := sqT_kept pn6 k7 sq6
      refine nx_go ?_
      refine asg_of (fun v H' => ∃ d, Bent K H' v d ∧ PenAt H' p c cells (n + 4 * i + 4) ∧ Kept p H6 H') (fun Qz z => ?_) (fun v H8 ⟨d, b8, pn8, k8⟩ => nx_go ?_)
      · refine ⟨_, rfl, Nat.zero_le _, fun t ht => ?_⟩
        have s8 := same_new (o := .tup []) ht
        refine ⟨_, _, Dp.tup (sqT_mono s8 (sqI sq7)) (dp_ints _), Dp.tup (SqT.of upd_same) .nil, shaped_tup _, by decide +kernel, !os.isEmpty, by cases os <;> rfl, ?_⟩
        have hh8 := hh7.mono s8
        have sq8 := sqT_mono s8 sq7
        have pn8 := pn7.mono s8 (Nat.le_refl _)
        have k8 := k7.trans (Kept.of s8)
        cases ho : os.isEmpty with
        | true =>
          refine iteF' ⟨by show 1 ≤ sizeLine; decide, fun t2 ht2 => z _ _ ⟨_, Bent.tup (SqT.of upd_same) (fun x m => ?_) (by show 1 ≤ 2000; decide), pn8.mono (same_new ht2) (by omega), k8.trans (Kept.of (same_new ht2))⟩⟩
          obtain rfl := List.mem_singleton.mp m
          rfl
        | false =>
          obtain ⟨ps8, ha8, lp8, _⟩ := id hh8
          obtain ⟨x, g, hp8, _⟩ := pn8.ex
          have nap : a ≠ p := fun e => by
            rw [e, hp8] at ha8
            have e := HO.lst.inj (Option.some.inj ha8)
            rcases ps8 with _ | ⟨_, _ | ⟨_, _⟩⟩ <;> cases e
          refine iteT' ⟨_, rfl, _, rfl, _, rfl, p, c, a, o, cells, n + 4 * i, _, natsI os, rfl, pn8, by omega, ha8, nap, by rw [List.length_map]; omega, sqI sq8, ?_, ?_, lo, fun v d H9 b9 pn9 k9 => z _ _ ⟨d, b9, pn9, k8.trans k9⟩⟩
          · unfold natsI
            rw [List.length_map]
            cases os with
            | nil => cases ho
            | cons _ _ => exact Nat.succ_pos _
          · unfold natsI
            rw [List.length_map]
            exact ol
      · have hh8 := rows_kept pn6 k8 hh6
        obtain ⟨c1, c2, c3⟩ := bool_tell' (orderB rs d)
        refine ⟨_, rfl, _, rfl, fun x dx hx hdx ne => ord_go hx hdx ne b8.cp fun H9 s9 od => ?_⟩
        refine ⟨a, rs, .ref x, orderB rs d, rfl, hh8.mono s9, hl, ok, hs, nb, .inl ⟨x, d, rfl, od, b8.ln, rfl⟩, fun H10 s10 => ?_⟩
        have sC := s9.trans s10
        refine ⟨.bl (orderB rs d), .bool (orderB rs d), rfl, .bl _, c1, c2, c3, _, rfl, _, rfl, a, rs, v, d, rfl, hh8.mono sC, hl, ok, nb, Dv.mono sC b8.cp.dv, b8.ln, b8.fl, fun H11 s11 => ?_⟩
        refine ⟨.bl (orderB rs d), .bool (orderB rs d), rfl, .bl _, c1, c2, c3, rfl, false, ne_self, iteF' ⟨_, _, rfl, pn8.mono (sC.trans s11) (by omega), k8.trans (Kept.of (sC.trans s11))⟩⟩
    · rintro σ H7 ⟨x4, x5, rfl, pn7, k7⟩
      have hh7 := rows_kept pn6 k7 hh6
      have sq7 := sqT_kept pn6 k7 sq6
      refine ⟨_, rfl, _, rfl, _, rfl, fun x3 d3 hx3 hd3 ne3 => ord_go hx3 hd3 ne3 (bo sq7).cp fun H8 s8 od8 => ?_⟩
      refine ⟨by show 1 ≤ sizeLine; decide, fun L1 hL1 => ?_⟩
      have s9 := same_new (o := .lst [.ref x3]) hL1
      have fL1 : upd H8 L1 (.lst [.ref x3]) L1 = some (.lst [.ref x3]) := upd_same
      generalize upd H8 L1 (.lst [.ref x3]) = H9 at s9 fL1 ⊢
      refine fun x4' d4 hx4 hd4 ne4 => ord_go hx4 hd4 ne4 (Cpb.sc (x := .non) rfl) fun H10 s10 od10 => ?_
      refine fun x5' d5 hx5 hd5 ne5 => ord_go hx5 hd5 ne5 (Cpb.sc (x := .str "0") (by decide +kernel)) fun H11 s11 od11 => ?_
      refine fun D hD => ⟨upd_same, [(.inl 0, .int 1)], rfl, by show 1 ≤ 15; decide, ?_⟩
      have fD : ∀ X : Hp, Cpb K (upd X D (.dK (mergeK [] [(.inl 0, .int 1)]))) (.ref D) (.dict [(.int 0, .int 1)]) := fun X => by
        refine Cpb.of rfl (.dic (.inl ?_) (kvs := [(.inl 0, .int 1)]) (.cons (.int 1) .nil))
        unfold offD
        rw [upd_same]
        rfl
      have sD : ∀ o2, Same H11 (upd (upd H11 D (.dK [])) D o2) := fun o2 => by
        rw [upd_upd]
        exact same_new hD
      refine fun x6 d6 hx6 hd6 ne6 => ord_go hx6 hd6 ne6 (fD _) fun H12 s12 od12 => ?_
      refine ⟨by show 1 ≤ sizeLine; decide, fun t ht => fun x7 d7 hx7 hd7 ne7 => ord_go hx7 hd7 ne7 (Bent.tup (xs := [.non]) (SqT.of upd_same) (fun x m => by rw [List.mem_singleton.mp m]; rfl) (by show 1 ≤ 2000; decide)).cp fun H13 s13 od13 => ?_⟩
      have t13 := (same_new (o := .tup [.non]) ht).trans s13
      have t12 := s12.trans t13
      have t11 := (sD _).trans t12
      have t10 := s11.trans t11
      have t9 := s10.trans t10
      have t7 := s8.trans (s9.trans t9)
      refine ⟨by show 9 ≤ sizeLine; decide, fun L hL => ?_⟩
      have pn13 := pn7.mono t7 (Nat.le_refl _)
      have sL := same_new (o := .lst [.non, .int 0, .ref o, .ref L1, .ref x4', .ref x5', .ref x6, .ref x7, .bl true]) hL
      refine ⟨p, c, L, cells, n + 4 * 5, _, rfl, pn13.mono sL (Nat.le_refl _), by omega, upd_same, (pn13.nn hL).1, by show 0 < 9; decide, by show 9 ≤ 100; decide, fun m x H15 ex pn15 k15 => ?_⟩
      have pnL := pn13.mono sL (Nat.le_refl _)
      have kA := (Kept.of (p := p) (t7.trans sL)).trans k15
      have hh15 := rows_kept pn7 kA hh7
      have sq15 := sqT_kept pn7 kA sq7
      have o4 := ord_kept pnL k15 ((od10.mono t10).mono sL) rfl
      have o5 := ord_kept pnL k15 ((od11.mono t11).mono sL) rfl
      have o6 := ord_kept pnL k15 ((od12.mono t13).mono sL) rfl
      have o7 := ord_kept pnL k15 (od13.mono sL) rfl
      have nL1 : L1 ≠ p := (pn7.mono s8 (Nat.le_refl _)).nn hL1 |>.1
      have fL15 := k15 _ _ nL1 ((t9.trans sL) _ _ fL1)
      have ver : Ver K H15 CO CQ rs x false := by
        rcases m with _ | _ | _ | _ | _ | _ | _ | _ | _ | m
        · obtain rfl : V.non = x := Option.some.inj ex
          exact .inr (.inr ⟨noVer_dv AO AQ .non, rfl⟩)
        · obtain rfl : V.int 0 = x := Option.some.inj ex
          exact .inr (.inr ⟨noVer_dv AO AQ (.int 0), rfl⟩)
        · obtain rfl : V.ref o = x := Option.some.inj ex
          exact .inr (.inr ⟨noVer_dv AO AQ (bo sq15).cp.dv, rfl⟩)
        · obtain rfl : V.ref L1 = x := Option.some.inj ex
          exact .inr (.inr ⟨⟨_, .base (.lst fL15), AO.no "list" (by decide), AQ.no "list" (by decide)⟩, rfl⟩)
        · obtain rfl : V.ref x4' = x := Option.some.inj ex
          exact .inl ⟨x4', _, rfl, o4, Nat.zero_le _, rfl⟩
        · obtain rfl : V.ref x5' = x := Option.some.inj ex
          exact .inl ⟨x5', _, rfl, o5, Nat.zero_le _, rfl⟩
        · obtain rfl : V.ref x6 = x := Option.some.inj ex
          exact .inl ⟨x6, _, rfl, o6, Nat.zero_le _, rfl⟩
        · obtain rfl : V.ref x7 = x := Option.some.inj ex
          exact .inl ⟨x7, _, rfl, o7, by show 1 ≤ 2000; decide, rfl⟩
        · obtain rfl : V.bl true = x := Option.some.inj ex
          exact .inr (.inr ⟨noVer_dv AO AQ (.bl true), rfl⟩)
        · cases ex
      exact ⟨_, rfl, _, rfl, a, rs, x, false, rfl, hh15, hl, ok, hs, nb, ver, fun H16 s16 => ⟨false, false, rfl, rfl, q H16 (pn15.mono s16 (by omega)) ((Kept.of sB).trans (k7.trans (kA.trans (Kept.of s16))))⟩⟩
end
end K37
end

section
set_option Elab.async false
set_option linter.all false
set_option maxRecDepth 100000
set_option maxHeartbeats 4000000
/-! quarrels that are right -/
namespace K37
open PySem PySem.Spec PyProof.Rows L2 KZ
abbrev sQR : Stmt := top 53
/-- what may be drawn for a quarrel -/
def Itm (K : PySem.W.Frag) (p : Addr) (H : Hp) (x : V) : Prop := okV x = true ∨ (∃ t y, x = .ref t ∧ t ≠ p ∧ H t = some (.lst [y]) ∧ okV y = true) ∨ ∃ t y, x = .ref t ∧ SqT K H t [y] ∧ okV y = true
theorem Itm.kept {K : PySem.W.Frag} {H H' : Hp} {p c : Addr} {cells : List Int} {n : Nat} {x : V} (pn : PenAt H p c cells n) (k : Kept p H H') (h : Itm K p H x) : Itm K p H' x := by
  rcases h with h | ⟨t, y, e, ne, ht, oy⟩ | ⟨t, y, e, ht, oy⟩
  · exact .inl h
  · exact .inr (.inl ⟨t, y, e, ne, k _ _ ne ht, oy⟩)
  · exact .inr (.inr ⟨t, y, e, sqT_kept pn k ht, oy⟩)
theorem Itm.mono {K : PySem.W.Frag} {H H' : Hp} {p : Addr} {x : V} (s : Same H H') (h : Itm K p H x) : Itm K p H' x := by
  rcases h with h | ⟨t, y, e, ne, ht, oy⟩ | ⟨t, y, e, ht, oy⟩
  · exact .inl h
  · exact .inr (.inl ⟨t, y, e, ne, s _ _ ht, oy⟩)
  · exact .inr (.inr ⟨t, y, e, sqT_mono s ht, oy⟩)
theorem flat_str {c : PyData} (h : flatD c = true) : ∀ y, c = .str y → PyData.canLay0 (.str y) = true := fun y e => by
  subst e
  exact h
theorem Itm.cpb {K : PySem.W.Frag} {H : Hp} {p : Addr} {x : V} (h : Itm K p H x) : ∃ c, Cpb K H x c ∧ ∀ y, c = .str y → PyData.canLay0 (.str y) = true := by
  rcases h with h | ⟨t, y, e, ne, ht, oy⟩ | ⟨t, y, e, ht, oy⟩
  · refine ⟨_, Cpb.sc h, fun y e => ?_⟩
    cases x <;> first | (cases e; exact h) | cases e
  · subst e
    have b := Bent.lst (K := K) ht (fun x m => by rw [List.mem_singleton.mp m]; exact oy) (by show 1 ≤ 2000; decide)
    exact ⟨_, b.cp, flat_str b.fl⟩
  · subst e
    have b := Bent.tup (K := K) ht (fun x m => by rw [List.mem_singleton.mp m]; exact oy) (by show 1 ≤ 2000; decide)
    exact ⟨_, b.cp, flat_str b.fl⟩
def spQR : Sp := fun vs H Q _ => ∃ (p c a : Addr) (cells : List Int) (n : Nat) (rs : List Row), vs = [.ref p, .ref a] ∧ PenAt H p c cells n ∧ n ≤ 8000 ∧ RowsAt H a rs ∧ rs.length ≤ 50 ∧ (∀ r ∈ rs, r.Ok) ∧ (∀ r ∈ rs, r.c.length ≤ 1000) ∧ firstBad rs = none ∧
  ∀ H', PenAt H' p c cells (n + 20) → Kept p H H' → Q (.bl true) H'
section
variable {P : Program} {w : World} {K : PySem.W.Frag} {mg : Str → Option Value} {base : Heap} {C CO CQ : Addr}
theorem scQR : FnScope ["well", "rows", "some", "one", "other", "word", "turn"] ["well", "rows"] (defScope sQR) := ⟨rfl, rfl, rfl, by decide +kernel, rfl, by decide +kernel, by decide +kernel⟩
theorem ok_qr (hmd : ModsD base) {f : Addr} {fd : FuncData} (F : Fun K "_law_quarrels_right" "_law_quarrels_right" sQR f fd) (T : B1 mg) (AQ : QuaC K mg CQ CO) (mkq : MkQ P w K mg base CQ) (lk : Cal P w K mg base "_law_looked" 11 ["rows", "value"] (spLk K CO CQ))
    (isq : Cal P w K mg base "_law_is_quarrel" 4 ["rows", "word", "one", "other"] (spLIQ K)) (one : Cal P w K mg base "_law_one" 2 ["well", "some"] spOne) :
    FnG P w K mg base CX0 12 f fd ["well", "rows"] spQR := by
  obtain ⟨fQi, dQi, MQ, GQi, bQi⟩ := mkq.ex
  obtain ⟨fLk, dLk, gLk, GLk, kLk, bLk⟩ := lk.ex
  obtain ⟨fIQ, dIQ, gIQ, GIQ, kIQ, bIQ⟩ := isq.ex
  obtain ⟨fO, dO, gO_, GO, kO, bO⟩ := one.ex
  refine okG F scQR (fun vs H Q E h => ?_) (fun cdv A' outer s0 H vs Q E hgd hr h => ?_)
  · obtain ⟨p, c, a, cells, n, rs, rfl, _⟩ := h
    rfl
  · obtain ⟨p, c, a, cells, n, rs, rfl, pn, hn, hh, hl, ok, hs, nb, q⟩ := h
    have hr11 : Room 11 _ := hr
    have hr4 : Room 4 _ := hr.mono (by decide)
    have hr2 : Room 2 _ := hr.mono (by decide)
    refine ⟨_, (pss_cons (ps_set (i := 2) scQR.nd rfl (Or.inl rfl) (pe_op op_cat (pe_lst (pa_cons pe_non pa_nil)) (pe_listRg rfl (by rfl) T.list (prg_1 (by rfl) T.range (pe_callB call_len (by rfl) T.len PySem.boot_len (pa_cons (pv 1) pa_nil))))))
(pss_cons (ps_for PassesOwn.never rfl (pi_list (pv 2)) (pg_name (i := 3) scQR.nd rfl (Or.inl rfl))
(pss_one (ps_for PassesOwn.never rfl (pi_list (pv 2)) (pg_name (i := 4) scQR.nd rfl (Or.inl rfl))
(pss_one (ps_for PassesOwn.never rfl (pi_sq (pe_tup (pa_cons pe_str (pa_cons pe_str pa_nil)))) (pg_name (i := 5) scQR.nd rfl (Or.inl rfl))
(pss_one (ps_if (pt_cmpR op_ne (pe_callB (call_reprK K hgd hr.units hmd) (by rfl) T.repr (by decide +kernel) (pa_cons (pe_call GLk hr11 (by rfl) gLk kLk bLk .nil pass0 (pa_cons (pv 1) (pa_cons (pe_make MQ GQi hr4 (by rfl) AQ.mg bQi .nil pass0 (pa_cons (pv 5) (pa_cons (pv 3) (pa_cons (pv 4) pa_nil)))) pa_nil))) pa_nil)) (pe_callB (call_reprK K hgd hr.units hmd) (by rfl) T.repr (by decide +kernel) (pa_cons (pe_call GIQ hr4 (by rfl) gIQ kIQ bIQ .nil pass0 (pa_cons (pv 1) (pa_cons (pv 5) (pa_cons (pv 3) (pa_cons (pv 4) pa_nil))))) pa_nil)) (nomark _))
(pss_one (ps_ret pe_bl))
pss_nil)))))))
(pss_cons (ps_for PassesOwn.never rfl (pi_range1 (by rfl) T.range (pa_cons pe_int pa_nil)) (pg_name (i := 6) scQR.nd rfl (Or.inl rfl))
(pss_cons (ps_set (i := 5) scQR.nd rfl (Or.inl rfl) (pe_call GO hr2 (by rfl) gO_ kO bO .nil pass0 (pa_cons (pv 0) (pa_cons (pe_lst (pa_cons pe_str (pa_cons pe_str (pa_cons pe_str (pa_cons pe_str (pa_cons pe_str (pa_cons pe_non (pa_cons pe_int (pa_cons (pe_lst (pa_cons pe_str pa_nil)) (pa_cons (pe_tup (pa_cons pe_str pa_nil)) pa_nil)))))))))) pa_nil))))
(pss_cons (ps_par (i := 3) (j := 4) (by rfl) scQR.nd rfl rfl (by decide) rfl rfl (pa_cons (pe_call GO hr2 (by rfl) gO_ kO bO .nil pass0 (pa_cons (pv 0) (pa_cons (pe_op op_cat (pv 2) (pe_lst (pa_cons (pe_un un_neg pe_int) (pa_cons pe_bl (pa_cons pe_bl (pa_cons pe_str (pa_cons (pe_callB call_len (by rfl) T.len PySem.boot_len (pa_cons (pv 1) pa_nil)) pa_nil))))))) pa_nil))) (pa_cons (pe_call GO hr2 (by rfl) gO_ kO bO .nil pass0 (pa_cons (pv 0) (pa_cons (pe_op op_cat (pv 2) (pe_lst (pa_cons (pe_un un_neg pe_int) (pa_cons pe_bl (pa_cons pe_bl (pa_cons (pe_lst (pa_cons pe_int pa_nil)) (pa_cons (pe_callB call_len (by rfl) T.len PySem.boot_len (pa_cons (pv 1) pa_nil)) pa_nil))))))) pa_nil))) pa_nil)) (by rfl))
(pss_one (ps_if (pt_cmpR op_ne (pe_callB (call_reprK K hgd hr.units hmd) (by rfl) T.repr (by decide +kernel) (pa_cons (pe_call GLk hr11 (by rfl) gLk kLk bLk .nil pass0 (pa_cons (pv 1) (pa_cons (pe_make MQ GQi hr4 (by rfl) AQ.mg bQi .nil pass0 (pa_cons (pv 5) (pa_cons (pv 3) (pa_cons (pv 4) pa_nil)))) pa_nil))) pa_nil)) (pe_callB (call_reprK K hgd hr.units hmd) (by rfl) T.repr (by decide +kernel) (pa_cons (pe_call GIQ hr4 (by rfl) gIQ kIQ bIQ .nil pass0 (pa_cons (pv 1) (pa_cons (pv 5) (pa_cons (pv 3) (pa_cons (pv 4) pa_nil))))) pa_nil)) (nomark _))
(pss_one (ps_ret pe_bl))
pss_nil)))))
(pss_one (ps_ret pe_bl))))), ?_⟩
    refine ⟨by show 1 ≤ sizeLine; decide, fun N hN => ?_⟩
    have s1 := same_new (o := .lst [.non]) hN
    have hh1 := hh.mono s1
    obtain ⟨ps, ha1, lp, _⟩ := id hh1
    have fN : upd H N (.lst [.non]) N = some (.lst [.non]) := upd_same
    generalize upd H N (.lst [.non]) = H1 at s1 hh1 ha1 fN ⊢
    refine ⟨_, rfl, .ref a, _, rfl, .inl ⟨_, SqL.of ha1, rfl⟩, _, rfl, RgOk.of_le (by decide) (by rw [List.length_map]; omega) (by decide) (by omega), fun S0 hS0 => ?_⟩
    rw [List.length_map, lp, rg_nats]
    have s2 := same_new (o := .lst (nats (List.range rs.length))) hS0
    have nln : (nats (List.range rs.length)).length = rs.length := by unfold nats; rw [List.length_map, List.length_range]
    refine ⟨N, S0, _, _, rfl, rfl, s2 _ _ fN, upd_same, Nat.le_trans (show 1 + _ ≤ 1000 by omega) (by decide), fun S hS => nx_go ?_⟩
    have oks : ∀ x ∈ ([V.non] ++ nats (List.range rs.length)), okV x = true := fun x m => by
      rcases List.mem_append.mp m with m | m
      · rw [List.mem_singleton.mp m]
        rfl
      · unfold nats at m
        obtain ⟨y, _, rfl⟩ := List.mem_map.mp m
        rfl
    have lns : ([V.non] ++ nats (List.range rs.length)).length ≤ 51 := by rw [List.length_append]; show 1 + _ ≤ 51; omega
    generalize [V.non] ++ nats (List.range rs.length) = xs at oks lns hS ⊢
    have s3 := s1.trans (s2.trans (same_new (o := .lst xs) hS))
    have fS : upd (upd H1 S0 (.lst (nats (List.range rs.length)))) S (.lst xs) S = some (.lst xs) := upd_same
    generalize upd (upd H1 S0 (.lst (nats (List.range rs.length)))) S (.lst xs) = H2 at s3 fS ⊢
    have pn2 := pn.mono s3 (Nat.le_refl _)
    have hh2 := hh.mono s3
    have nS : S ≠ p := fun e => by
      obtain ⟨x, g, hp, _⟩ := pn2.ex
      rw [e, hp] at fS
      have e := HO.lst.inj (Option.some.inj fS)
      have := oks (.ref c) (by rw [← e]; exact List.mem_cons_self)
      cases this
    refine ⟨_, rfl, S, rfl, ⟨_, SqL.of fS⟩, ?_⟩
    refine for_it (walk_list (K := K) (a := S) (xs := xs)) (fun i σ H' => ∃ x3 x4 x5, σ = [some (.ref p), some (.ref a), some (.ref S), x3, x4, x5, none] ∧ Same H2 H') ⟨_, _, _, rfl, Same.refl _⟩ (fun i σ H' _ ⟨_, _, _, _, e⟩ => SqL.of (e _ _ fS)) ?_ ?_
    · rintro i one σ H3 H4 hi ⟨x3, x4, x5, rfl, e3⟩ ⟨rfl, hx⟩
      have oone := oks one (List.mem_of_getElem? hx)
      refine nx_go ?_
      refine ⟨_, rfl, S, rfl, ⟨_, SqL.of (e3 _ _ fS)⟩, ?_⟩
      refine for_it (walk_list (K := K) (a := S) (xs := xs)) (fun i σ H' => ∃ x4 x5, σ = [some (.ref p), some (.ref a), some (.ref S), some one, x4, x5, none] ∧ Same H2 H') ⟨_, _, rfl, e3⟩ (fun i σ H' _ ⟨_, _, _, e⟩ => SqL.of (e _ _ fS)) ?_ ?_
      · rintro j other σ H5 H6 hj ⟨x4, x5, rfl, e5⟩ ⟨rfl, hy⟩
        have ooth := oks other (List.mem_of_getElem? hy)
        refine nx_go ?_
        refine ⟨by show 2 ≤ sizeLine; decide, fun t ht => ⟨t, _, rfl, .inr (SqT.of upd_same), fun J G wk hG => ?_⟩⟩
        have e6 := e5.trans (same_new (o := .tup [.str "lots", .str "future"]) ht)
        generalize upd H6 t (.tup [.str "lots", .str "future"]) = H7 at e6 hG ⊢
        refine for_it wk (fun i σ H' => ∃ x5, σ = [some (.ref p), some (.ref a), some (.ref S), some one, some other, x5, none] ∧ Same H7 H') ⟨_, rfl, Same.refl _⟩ (fun i σ H' _ ⟨_, _, e⟩ => hG _ e) ?_ ?_
        · rintro k word σ H8 H8' hk ⟨x5, rfl, e8⟩ ⟨rfl, hz⟩
          have owo : okV word = true := by
            rcases k with _ | _ | k
            · obtain rfl : V.str "lots" = word := Option.some.inj hz
              decide +kernel
            · obtain rfl : V.str "future" = word := Option.some.inj hz
              decide +kernel
            · cases hz
          have hh8 := hh2.mono (e6.trans e8)
          obtain ⟨c1, cp1, cs1⟩ := Itm.cpb (K := K) (H := H8') (p := p) (.inl owo)
          obtain ⟨c2, cp2, _⟩ := Itm.cpb (K := K) (H := H8') (p := p) (.inl oone)
          obtain ⟨c3, cp3, _⟩ := Itm.cpb (K := K) (H := H8') (p := p) (.inl ooth)
          refine nx_go ?_
          obtain ⟨b1, b2, b3⟩ := bool_tell' (quarB rs c1 c2 c3)
          refine ⟨_, rfl, _, rfl, _, rfl, _, rfl, fun x dx hx hdx ne => qua_go hx hdx ne cp1 cp2 cp3 fun H9 s9 qd => ?_⟩
          refine ⟨a, rs, .ref x, quarB rs c1 c2 c3, rfl, hh8.mono s9, by omega, ok, hs, nb, .inr (.inl ⟨x, c1, c2, c3, rfl, qd, rfl⟩), fun H10 s10 => ?_⟩
          have sC := s9.trans s10
          refine ⟨.bl _, .bool (quarB rs c1 c2 c3), rfl, .bl _, b1, b2, b3, _, rfl, _, rfl, _, rfl, _, rfl, a, rs, _, c1, _, c2, _, c3, rfl, hh8.mono sC, by omega, ok, nb, Dv.mono sC cp1.dv, cs1, Dv.mono sC cp2.dv, Dv.mono sC cp3.dv, fun H11 s11 => ?_⟩
          refine ⟨.bl _, .bool (quarB rs c1 c2 c3), rfl, .bl _, b1, b2, b3, rfl, false, ne_self, iteF' ?_⟩
          exact ⟨_, rfl, e8.trans (sC.trans s11)⟩
        · rintro σ H8 ⟨x5, rfl, e8⟩
          exact ⟨_, _, rfl, e6.trans e8⟩
      · rintro σ H5 ⟨x4, x5, rfl, e5⟩
        exact ⟨_, _, _, rfl, e5⟩
    · rintro σ H3 ⟨x3, x4, x5, rfl, e3⟩
      have pn3 := pn2.mono e3 (Nat.le_refl _)
      have hh3 := hh2.mono e3
      have fS3 := e3 _ _ fS
      refine ⟨4, rfl, by decide, by decide, for_range (n := 4) (fun i σ H' => ∃ x3 x4 x5 x6, σ = [some (.ref p), some (.ref a), some (.ref S), x3, x4, x5, x6] ∧ PenAt H' p c cells (n + 3 * i) ∧ Kept p H3 H') ⟨_, _, _, _, rfl, pn3, Kept.of (Same.refl _)⟩ ?_ ?_⟩
      · rintro i σ H4 hi ⟨x3, x4, x5, x6, rfl, pn4, k4⟩
        refine nx_go ?_
        have fS4 := k4 _ _ nS fS3
        -- the word
        refine ⟨_, rfl, by show 1 ≤ sizeLine; decide, fun L1 hL1 => ⟨by show 1 ≤ sizeLine; decide, fun t1 ht1 => ⟨by show 9 ≤ sizeLine; decide, fun L hL => ?_⟩⟩⟩
        have fL1 : upd H4 L1 (.lst [.str "lots"]) L1 = some (.lst [.str "lots"]) := upd_same
        have nL1 := (pn4.nn hL1).1
        have g1 := same_new (o := .lst [.str "lots"]) hL1
        generalize upd H4 L1 (.lst [.str "lots"]) = H5 at fL1 g1 ht1 hL ⊢
        have ft1 : upd H5 t1 (.tup [.str "future"]) t1 = some (.tup [.str "future"]) := upd_same
        have g2 := same_new (o := .tup [.str "future"]) ht1
        have fL1 := g2 _ _ fL1
        have g2 := g1.trans g2
        generalize upd H5 t1 (.tup [.str "future"]) = H6 at ft1 fL1 g2 hL ⊢
        have pn6 := pn4.mono g2 (Nat.le_refl _)
        have g3 := same_new (o := .lst [.str "lots", .str "future", .str "lots", .str "Lots", .str "", .non, .int 0, .ref L1, .ref t1]) hL
        refine ⟨p, c, L, cells, n + 3 * i, _, rfl, pn6.mono g3 (Nat.le_refl _), by omega, upd_same, (pn6.nn hL).1, by show 0 < 9; decide, by show 9 ≤ 100; decide, fun m word H7 ex pn7 k7 => nx_go ?_⟩
        have pn6' := pn6.mono g3 (Nat.le_refl _)
        have kA := (Kept.of (p := p) (g2.trans g3)).trans k7
        have iw : Itm K p H7 word := by
          refine Itm.kept pn6' k7 ?_
          rcases m with _ | _ | _ | _ | _ | _ | _ | _ | _ | m <;> first | cases ex | (obtain rfl := Option.some.inj ex)
          · exact .inl (by decide +kernel)
          · exact .inl (by decide +kernel)
          · exact .inl (by decide +kernel)
          · exact .inl (by decide +kernel)
          · exact .inl (by decide +kernel)
          · exact .inl rfl
          · exact .inl rfl
          · exact .inr (.inl ⟨L1, _, rfl, nL1, g3 _ _ fL1, by decide +kernel⟩)
          · exact .inr (.inr ⟨t1, _, rfl, SqT.of (g3 _ _ ft1), by decide +kernel⟩)
        have fS7 := kA _ _ nS fS4
        have hh7 := rows_kept pn3 (k4.trans kA) hh3
        have k7' := k4.trans kA
        clear k4 k7 kA g1 g2 g3 ft1 fL1 hL1 ht1 hL pn4 pn6 pn6' fS4 nL1
        obtain ⟨ps7, ha7, lp7, _⟩ := id hh7
        refine ⟨_, rfl, _, rfl, 1, rfl, _, rfl, .ref a, _, rfl, .inl ⟨_, SqL.of ha7, rfl⟩, by show 5 ≤ sizeLine; decide, fun A1 hA1 => ?_⟩
        have g1 := same_new (o := .lst [.int (-1), .bl true, .bl false, .str "0", .int ((ps7.map V.ref).length : Nat)]) hA1
        refine ⟨S, A1, _, _, rfl, rfl, g1 _ _ fS7, upd_same, Nat.le_trans (show xs.length + 5 ≤ 1000 by omega) (by decide), fun A2 hA2 => ?_⟩
        have g2 := g1.trans (same_new (o := .lst (xs ++ [.int (-1), .bl true, .bl false, .str "0", .int ((ps7.map V.ref).length : Nat)])) hA2)
        have pnA := pn7.mono g2 (Nat.le_refl _)
        refine ⟨p, c, A2, cells, n + 3 * i + 1, _, rfl, pnA, by omega, upd_same, ((pn7.mono g1 (Nat.le_refl _)).nn hA2).1, by rw [List.length_append]; exact Nat.lt_of_lt_of_le (show 0 < 5 by decide) (Nat.le_add_left _ _), by rw [List.length_append]; show _ + 5 ≤ 100; omega, fun m2 one H8 ex2 pn8 k8 => ?_⟩
        have oone : okV one = true := by
          rcases List.mem_append.mp (List.mem_of_getElem? ex2) with m | m
          · exact oks _ m
          · simp only [List.mem_cons, List.not_mem_nil, or_false] at m
            rcases m with rfl | rfl | rfl | rfl | rfl <;> first | rfl | decide +kernel
        have kB := (Kept.of (p := p) g2).trans k8
        have iw8 := iw.kept pn7 kB
        have hh8 := rows_kept pn7 kB hh7
        have fS8 := kB _ _ nS fS7
        have k8' := k7'.trans kB
        clear pnA k8 kB g1 g2 hA1 hA2 iw hh7 fS7 k7' ha7
        obtain ⟨ps8, ha8, lp8, _⟩ := id hh8
        refine ⟨_, rfl, _, rfl, 1, rfl, by show 1 ≤ sizeLine; decide, fun A0 hA0 => ?_⟩
        have fA0 : upd H8 A0 (.lst [.int 0]) A0 = some (.lst [.int 0]) := upd_same
        have nA0 := (pn8.nn hA0).1
        have g0 := same_new (o := .lst [.int 0]) hA0
        generalize upd H8 A0 (.lst [.int 0]) = HA at g0 fA0 ⊢
        have pnA0 := pn8.mono g0 (Nat.le_refl _)
        refine ⟨_, rfl, .ref a, _, rfl, .inl ⟨_, SqL.of (g0 _ _ ha8), rfl⟩, by show 5 ≤ sizeLine; decide, fun A1 hA1 => ?_⟩
        have g1 := same_new (o := .lst [.int (-1), .bl true, .bl false, .ref A0, .int ((ps8.map V.ref).length : Nat)]) hA1
        refine ⟨S, A1, _, _, rfl, rfl, g1 _ _ (g0 _ _ fS8), upd_same, Nat.le_trans (show xs.length + 5 ≤ 1000 by omega) (by decide), fun A2 hA2 => ?_⟩
        have g2 := g1.trans (same_new (o := .lst (xs ++ [.int (-1), .bl true, .bl false, .ref A0, .int ((ps8.map V.ref).length : Nat)])) hA2)
        have pnA := pnA0.mono g2 (Nat.le_refl _)
        refine ⟨p, c, A2, cells, n + 3 * i + 2, _, rfl, pnA, by omega, upd_same, ((pnA0.mono g1 (Nat.le_refl _)).nn hA2).1, by rw [List.length_append]; exact Nat.lt_of_lt_of_le (show 0 < 5 by decide) (Nat.le_add_left _ _), by rw [List.length_append]; show _ + 5 ≤ 100; omega, fun m3 other HB ex3 pnB kB0 => ?_⟩
        have ioth : Itm K p HB other := by
          refine Itm.kept pnA kB0 ?_
          rcases List.mem_append.mp (List.mem_of_getElem? ex3) with m | m
          · exact .inl (oks _ m)
          · simp only [List.mem_cons, List.not_mem_nil, or_false] at m
            rcases m with rfl | rfl | rfl | rfl | rfl
            · exact .inl rfl
            · exact .inl rfl
            · exact .inl rfl
            · exact .inr (.inl ⟨A0, _, rfl, nA0, g2 _ _ fA0, rfl⟩)
            · exact .inl rfl
        have kB := (Kept.of (p := p) (g0.trans g2)).trans kB0
        have iw9 := iw8.kept pn8 kB
        have hh8 := rows_kept pn8 kB hh8
        have k9 := k8'.trans kB
        refine ⟨_, _, rfl, ?_⟩
        obtain ⟨c1, cp1, cs1⟩ := iw9.cpb
        obtain ⟨c2, cp2, _⟩ := Itm.cpb (K := K) (H := HB) (p := p) (.inl oone)
        obtain ⟨c3, cp3, _⟩ := ioth.cpb
        obtain ⟨b1, b2, b3⟩ := bool_tell' (quarB rs c1 c2 c3)
        refine ⟨_, rfl, _, rfl, _, rfl, _, rfl, fun x dx hx hdx ne => qua_go hx hdx ne cp1 cp2 cp3 fun H9 s9 qd => ?_⟩
        refine ⟨a, rs, .ref x, quarB rs c1 c2 c3, rfl, hh8.mono s9, by omega, ok, hs, nb, .inr (.inl ⟨x, c1, c2, c3, rfl, qd, rfl⟩), fun H10 s10 => ?_⟩
        have sC := s9.trans s10
        refine ⟨.bl _, .bool (quarB rs c1 c2 c3), rfl, .bl _, b1, b2, b3, _, rfl, _, rfl, _, rfl, _, rfl, a, rs, _, c1, _, c2, _, c3, rfl, hh8.mono sC, by omega, ok, nb, Dv.mono sC cp1.dv, cs1, Dv.mono sC cp2.dv, Dv.mono sC cp3.dv, fun H11 s11 => ?_⟩
        refine ⟨.bl _, .bool (quarB rs c1 c2 c3), rfl, .bl _, b1, b2, b3, rfl, false, ne_self, iteF' ?_⟩
        exact ⟨_, _, _, _, rfl, pnB.mono (sC.trans s11) (by omega), k9.trans (Kept.of (sC.trans s11))⟩
      · rintro σ H4 ⟨x3, x4, x5, x6, rfl, pn4, k4⟩
        exact q H4 (pn4.more (by omega)) ((Kept.of (s3.trans e3)).trans k4)
end
end K37
end

section
set_option Elab.async false
set_option linter.all false
set_option maxRecDepth 100000
set_option maxHeartbeats 4000000
/-! one of many -/
namespace K37
open PySem L2 KZ
section
variable {P : Program} {w : World} {K : PySem.W.Frag} {mg : Str → Option Value} {base : Heap}
def spOneL : Sp := fun vs H Q _ => ∃ (p c s : Addr) (cells : List Int) (n : Nat) (xs : List V), vs = [.ref p, .ref s] ∧ PenAt H p c cells n ∧ n ≤ 10000 ∧ H s = some (.lst xs) ∧ s ≠ p ∧ 0 < xs.length ∧ xs.length ≤ 100000 ∧
  ∀ (i : Nat) (x : V) H', xs[i]? = some x → PenAt H' p c cells (n + 1) → Kept p H H' → Q x H'
theorem ok_oneL {f fD : Addr} {fd dD : FuncData} (F : Fun K "_law_one" "_law_one" sOne f fd) (T : B1 mg) (gD : mg "_law_draw" = some (.ref fD)) (FD : Fun K "_law_draw" "_law_draw" sDraw fD dD) (bD : Binds K dD ["well", "many"] []) : FnOk P w K mg base CX0 2 f fd ["well", "some"] spOneL := by
  have GD : FnOk P w K mg base CX0 1 fD dD ["well", "many"] spDraw := ok_draw FD T
  refine F.ok scOne (fun vs H Q E h => ?_) (fun cdv A outer s H vs Q E hr h => ?_)
  · obtain ⟨p, c, s, cells, n, xs, rfl, _⟩ := h
    rfl
  · obtain ⟨p, c, s, cells, n, xs, rfl, pen, hn, hs, nsp, hx0, hx1, q⟩ := h
    refine ⟨_, (pss_one (ps_ret (pe_ix (ix_seqK K) (pv 1) (pe_call GD hr (by rfl) gD FD.kp bD .nil pass0 (pa_cons (pv 0) (pa_cons (pe_callB call_len (by rfl) T.len PySem.boot_len (pa_cons (pv 1) pa_nil)) pa_nil))) (fun _ _ => rfl)))), ?_⟩
    refine ⟨_, rfl, _, rfl, _, rfl, .ref s, xs.length, rfl, .inl ⟨xs, SqL.of hs, rfl⟩, p, c, cells, n, xs.length, rfl, pen, hn, by omega, by omega, fun r H' r0 r1 pen' kp => ?_⟩
    obtain ⟨j, hj⟩ : ∃ j : Nat, r = j := ⟨_, (Int.toNat_of_nonneg r0).symm⟩
    have hjl : j < xs.length := by omega
    have e : xs[j]? = some (xs[j]'hjl) := List.getElem?_eq_getElem hjl
    exact Sq.ix (.inl (SqL.of (kp s _ nsp hs))) (by rw [hj]; exact atI_nat e) (q j _ H' e pen' kp)
end
end K37
end

section
set_option Elab.async false
set_option linter.all false
set_option maxRecDepth 100000
set_option maxHeartbeats 4000000
/-! quarrels of a history that is led, one ask of it later -/
namespace K37
open PySem PySem.Spec PyProof.Rows L2 KZ
abbrev sLQ : Stmt := top 54
def lat (r : Row) (e : Int) : Row := ⟨r.c, r.g, r.b, some e, r.t⟩
theorem set_ok {rs : List Row} {i : Nat} {r : Row} {e : Int} (h : rs[i]? = some r) (ok : ∀ r ∈ rs, r.Ok) (he : r.b < e) : ∀ r' ∈ rs.set i (lat r e), r'.Ok := fun r' m => by
  rcases List.mem_or_eq_of_mem_set m with m | rfl
  · exact ok _ m
  · have k := ok r (List.mem_of_getElem? h)
    exact ⟨k.n, k.b0, fun x z => by cases z; exact he, fun t z => ⟨(k.tg t z).1, (fun y => nomatch y), (k.tg t z).2.2⟩⟩
theorem set_cl {rs : List Row} {i : Nat} {r : Row} {e : Int} (h : rs[i]? = some r) (hs : ∀ r ∈ rs, r.c.length ≤ 1000) : ∀ r' ∈ rs.set i (lat r e), r'.c.length ≤ 1000 := fun r' m => by
  rcases List.mem_or_eq_of_mem_set m with m | rfl
  · exact hs _ m
  · exact hs r (List.mem_of_getElem? h)
theorem set_get {rs : List Row} {i : Nat} {r : Row} {e : Int} (h : rs[i]? = some r) (k : Nat) : ((rs.set i (lat r e))[k]?.map fun r => (r.t, r.g)) = rs[k]?.map fun r => (r.t, r.g) := by
  rw [List.getElem?_set]
  by_cases z : i = k
  · subst z
    have := (List.getElem?_eq_some_iff.mp h).1
    rw [if_pos rfl, if_pos this, h]
    rfl
  · rw [if_neg z]
theorem set_nb {rs : List Row} {i : Nat} {r : Row} {e : Int} (h : rs[i]? = some r) (nb : firstBad rs = none) : firstBad (rs.set i (lat r e)) = none := by
  rw [← nb]
  unfold firstBad
  rw [List.length_set]
  congr 1
  funext k
  unfold badAt
  have gt : ∀ k, (rs.set i (lat r e))[k]?.bind (fun r : Row => r.t) = rs[k]?.bind fun r : Row => r.t := fun k => by
    have := set_get (e := e) h k
    cases h1 : (rs.set i (lat r e))[k]? <;> cases h2 : rs[k]? <;> rw [h1, h2] at this <;> first | rfl | cases this | skip
    exact (Prod.mk.inj (Option.some.inj this)).1
  rw [gt, List.length_set]
  cases rs[k]?.bind (fun r : Row => r.t) with
  | none => rfl
  | some j =>
    dsimp only
    congr 1
    have := set_get (e := e) h j.toNat
    cases h1 : (rs.set i (lat r e))[j.toNat]? <;> cases h2 : rs[j.toNat]? <;> rw [h1, h2] at this <;> first | rfl | cases this | skip
    exact (Prod.mk.inj (Option.some.inj this)).2
theorem cut_from {xs : List V} {i : Nat} {z : Int} (e : z = (i : Nat)) (h : i ≤ xs.length) : cutV xs (some z) none = xs.drop i := by
  subst e
  unfold cutV
  rw [HT.sIx_nat, HT.sIx_none, Nat.min_eq_left h, List.take_of_length_le (by rw [List.length_drop]; exact Nat.le_refl _)]
theorem zd_keys {H : Hp} : ∀ {kvs : List (NK × V)} {l : LZ}, ZD H kvs l → kvs.map (fun kv => KZ.nV kv.1) = (keysL l).map oV
  | [], [], .nil => rfl
  | kv :: kvs, z :: l, .cons ⟨e, _⟩ b => by
    have ih := zd_keys b
    unfold keysL at ih ⊢
    rw [List.map_cons, List.map_cons, List.map_cons, ih, e, nk_v]
/-- what the loops of it keep -/
structure FrL (C p L M LT PS : Addr) (rs : List Row) (ms : List Addr) (ls : List (Option Int)) (prs : List Addr) (H : Hp) : Prop where
  rw_ : RowsAt H L rs
  hM : H M = some (.lst (ms.map V.ref))
  nM : M ≠ p
  am : AsksAt C H ms rs
  hL : H LT = some (.lst (ls.map oV))
  nL : LT ≠ p
  hP : H PS = some (.lst (prs.map V.ref))
  nP : PS ≠ p
  pr : ∀ q ∈ prs, ∃ k l, H q = some (.tup [oV k, oV l])
theorem FrL.mono {C p L M LT PS : Addr} {rs : List Row} {ms : List Addr} {ls : List (Option Int)} {prs : List Addr} {H H' : Hp} (s : Same H H') (h : FrL C p L M LT PS rs ms ls prs H) : FrL C p L M LT PS rs ms ls prs H' :=
  ⟨h.rw_.mono s, s _ _ h.hM, h.nM, ask_mono s h.am, s _ _ h.hL, h.nL, s _ _ h.hP, h.nP, fun q m => let ⟨k, l, e⟩ := h.pr q m; ⟨k, l, s _ _ e⟩⟩
theorem FrL.kept {C p c L M LT PS : Addr} {cells : List Int} {n : Nat} {rs : List Row} {ms : List Addr} {ls : List (Option Int)} {prs : List Addr} {H H' : Hp} (pn : PenAt H p c cells n) (s : Kept p H H') (h : FrL C p L M LT PS rs ms ls prs H) : FrL C p L M LT PS rs ms ls prs H' := by
  obtain ⟨x, g, hp, _⟩ := pn.ex
  exact ⟨rows_kept pn s h.rw_, s _ _ h.nM h.hM, h.nM, ⟨h.am.1, fun i q r e1 e2 => by
    obtain ⟨dx, hx⟩ := h.am.2 i q r e1 e2
    exact ⟨dx, s _ _ (fun z => by rw [z, hp] at hx; cases hx) hx⟩⟩, s _ _ h.nL h.hL, h.nL, s _ _ h.nP h.hP, h.nP, fun q m => let ⟨k, l, e⟩ := h.pr q m; ⟨k, l, s _ _ (fun z => by rw [z, hp] at e; cases e) e⟩⟩
theorem prs_dp {K : PySem.W.Frag} {H : Hp} : ∀ {prs : List Addr}, (∀ q ∈ prs, ∃ k l, H q = some (.tup [oV k, oV l])) → ∃ ds, DpAll K H (prs.map V.ref) ds ∧ ds.length = prs.length ∧ PyData.canLayAll0 ds = true ∧ PyData.depthAll ds ≤ 1
  | [], _ => ⟨[], .nil, rfl, rfl, Nat.zero_le _⟩
  | q :: prs, h => by
    obtain ⟨ds, h1, h2, h3, h4⟩ := prs_dp fun x m => h x (List.mem_cons_of_mem _ m)
    obtain ⟨k, l, e⟩ := h q List.mem_cons_self
    refine ⟨.tuple [oD k, oD l] :: ds, .cons (.tup (SqT.of e) (.cons (oD_dp k) (.cons (oD_dp l) .nil))) h1, by rw [List.length_cons, List.length_cons, h2], ?_, ?_⟩
    · show ((PyData.canLay0 (oD k) && (PyData.canLay0 (oD l) && true)) && PyData.canLayAll0 ds) = true
      rw [h3]
      cases k <;> cases l <;> rfl
    · show max (max (PyData.depth (oD k)) (max (PyData.depth (oD l)) 0) + 1) (PyData.depthAll ds) ≤ 1
      have a : PyData.depth (oD k) = 0 := by cases k <;> rfl
      have b : PyData.depth (oD l) = 0 := by cases l <;> rfl
      rw [a, b]
      omega
theorem lst_shaped {ds : List PyData} (a : PyData.canLayAll0 ds = true) (b : PyData.depthAll ds ≤ 1) : SeqAt.shaped (.list ds) = true := by
  unfold SeqAt.shaped
  rw [show PyData.canLay0 (.list ds) = PyData.canLayAll0 ds from rfl, a, decide_eq_true (show PyData.depth (.list ds) ≤ 64 from (by show PyData.depthAll ds + 1 ≤ 64; omega))]
  rfl
theorem eqv_nil' (ds : List PyData) : PyData.eqv (.list ds) (.list []) = ds.isEmpty := by cases ds <;> rfl
theorem okV_oV (o : Option Int) : okV (oV o) = true := by cases o <;> rfl
def spLQ : Sp := fun vs H Q _ => ∃ (p c a : Addr) (cells : List Int) (n : Nat) (rs : List Row), vs = [.ref p, .ref a] ∧ PenAt H p c cells n ∧ n ≤ 8000 ∧ RowsAt H a rs ∧ 0 < rs.length ∧ rs.length ≤ 1000 ∧ (∀ r ∈ rs, r.Ok) ∧ (∀ r ∈ rs, r.e ≠ none) ∧ (∀ r ∈ rs, r.c.length ≤ 1000) ∧ firstBad rs = none ∧
  ∀ H', PenAt H' p c cells (n + 30) → Kept p H H' → Q (.bl true) H'
section
variable {P : Program} {w : World} {K : PySem.W.Frag} {mg : Str → Option Value} {base : Heap} {C CO CQ : Addr}
theorem scLQ : FnScope ["well", "rows", "at", "later", "made", "some", "row", "lots", "pairs_so", "one", "other", "turn", "word", "gets", "spot", "told"] ["well", "rows"] (defScope sLQ) := ⟨rfl, rfl, rfl, by decide +kernel, rfl, by decide +kernel, by decide +kernel⟩
theorem ok_lq (hmd : ModsD base) {f : Addr} {fd : FuncData} (F : Fun K "_law_led_quarrels_right" "_law_led_quarrels_right" sLQ f fd) (T : B1 mg) (AQ : QuaC K mg CQ CO) (mkq : MkQ P w K mg base CQ) (sh : ShowK P w K mg base C CO CQ) (isq : Cal P w K mg base "_law_is_quarrel" 4 ["rows", "word", "one", "other"] (spLIQ K))
    (draw : Cal P w K mg base "_law_draw" 1 ["well", "many"] spDraw) (one : Cal P w K mg base "_law_one" 2 ["well", "some"] spOneL) (made : Cal P w K mg base "_law_made" 10 ["row"] (spMade C)) (zones : Cal P w K mg base "_law_zones" 2 ["rows"] (spLZones P w)) (cross : Cal P w K mg base "_law_cross" 1 ["here", "there"] spCross) :
    FnG P w K mg base CX0 12 f fd ["well", "rows"] spLQ := by
  obtain ⟨fQi, dQi, MQ, GQi, bQi⟩ := mkq.ex
  obtain ⟨fSh, dSh, gSh, GSh, kSh, bSh, kbSh⟩ := sh.ex
  obtain ⟨fIQ, dIQ, gIQ, GIQ, kIQ, bIQ⟩ := isq.ex
  obtain ⟨fD, dD, gD, GD, kD, bD⟩ := draw.ex
  obtain ⟨fO, dO, gO_, GO, kO, bO⟩ := one.ex
  obtain ⟨fM, dM, gM, GM, kM, bM⟩ := made.ex
  obtain ⟨fLz, dLz, gLz, GLz, kLz, bLz⟩ := zones.ex
  obtain ⟨fC, dC, gC, GC, kC, bC⟩ := cross.ex
  refine okG F scLQ (fun vs H Q E h => ?_) (fun cdv A' outer s0 H vs Q E hgd hr h => ?_)
  · obtain ⟨p, c, a, cells, n, rs, rfl, _⟩ := h
    rfl
  · obtain ⟨p, c, a, cells, n, rs, rfl, pn, hn, hh, l0, hl, ok, en, hs, nb, q⟩ := h
    have hr11 : Room 11 _ := hr
    have hr10 : Room 10 _ := hr.mono (by decide)
    have hr4 : Room 4 _ := hr.mono (by decide)
    have hr2 : Room 2 _ := hr.mono (by decide)
    have hr1 : Room 1 _ := hr.mono (by decide)
    refine ⟨_, (pss_cons (ps_set (i := 2) scLQ.nd rfl (Or.inl rfl) (pe_call GD hr1 (by rfl) gD kD bD .nil pass0 (pa_cons (pv 0) (pa_cons (pe_callB call_len (by rfl) T.len PySem.boot_len (pa_cons (pv 1) pa_nil)) pa_nil))))
(pss_cons (ps_set (i := 3) scLQ.nd rfl (Or.inl rfl) (pe_op op_cat (pe_op op_cat (pe_slice sl_list (pv 1) po_none (po_some (pv 2))) (pe_lst (pa_cons (pe_op (op_catAK K) (pe_slice (sl_tupAK K) (pe_ix (ix_seqK K) (pv 1) (pv 2) (fun _ _ => rfl)) po_none (po_some pe_int)) (pe_tup (pa_cons (pe_op op_add (pe_op op_add (pe_ix (ix_seqK K) (pe_ix (ix_seqK K) (pv 1) (pv 2) (fun _ _ => rfl)) pe_int (fun _ _ => rfl)) pe_int) (pe_call GD hr1 (by rfl) gD kD bD .nil pass0 (pa_cons (pv 0) (pa_cons pe_int pa_nil)))) (pa_cons (pe_ix (ix_seqK K) (pe_ix (ix_seqK K) (pv 1) (pv 2) (fun _ _ => rfl)) pe_int (fun _ _ => rfl)) pa_nil)))) pa_nil))) (pe_slice sl_list (pv 1) (po_some (pe_op op_add (pv 2) pe_int)) po_none)))
(pss_cons (ps_asg (pe_tup (pa_cons (pe_lc (own := [("row", 6)]) (g := gName 6) (tt := tYes) (by rfl) scLQ.nd (pi_list (pv 3)) (blkOk_by (own := [("row", 6)]) (N := ["well", "rows", "at", "later", "made", "some", "row", "lots", "pairs_so", "one", "other", "turn", "word", "gets", "spot", "told"]) (sc := defScope sLQ) (by decide +kernel)) (fun _ _ _ _ _ => pg_name (i := 6) scLQ.nd rfl (Or.inl rfl)) (fun _ _ _ _ _ => pts_nil) (fun _ _ _ _ _ => pe_call GM hr10 (by rfl) gM kM bM .nil pass0 (pa_cons (pv 6) pa_nil))) (pa_cons (pe_call GLz hr2 (by rfl) gLz kLz bLz .nil pass0 (pa_cons (pv 3) pa_nil)) pa_nil))) (pg_tup rfl (pgs_cons (pg_name (i := 4) scLQ.nd rfl (Or.inl rfl)) (pgs_cons (pg_name (i := 5) scLQ.nd rfl (Or.inr rfl)) pgs_nil))))
(pss_cons (ps_par (i := 7) (j := 8) (by rfl) scLQ.nd rfl rfl (by decide) rfl rfl (pa_cons (pe_callTy (call_listN P w rfl) (by rfl) T.list (by decide +kernel) (pa_cons (pv 5) pa_nil)) (pa_cons (pe_lst pa_nil) pa_nil)) (by rfl))
(pss_cons (ps_for PassesOwn.never rfl (pi_list (pe_slice sl_list (pv 7) po_none (po_some pe_int))) (pg_name (i := 9) scLQ.nd rfl (Or.inr rfl))
(pss_one (ps_set (i := 8) scLQ.nd rfl (Or.inl rfl) (pe_op op_cat (pv 8) (pe_lc (own := [("other", 10)]) (g := gName 10) (by rfl) scLQ.nd (pi_list (pv 7)) (blkOk_by (own := [("other", 10)]) (N := ["well", "rows", "at", "later", "made", "some", "row", "lots", "pairs_so", "one", "other", "turn", "word", "gets", "spot", "told"]) (sc := defScope sLQ) (by decide +kernel)) (fun _ _ _ _ _ => pg_name (i := 10) scLQ.nd rfl (Or.inl rfl)) (fun _ _ _ _ _ => pts_one (PW.pt (pw_and (pt_cmpR op_ne (pv 10) (pv 9) (nomark _)) (pw_and1 (pt_val (pe_call GC hr1 (by rfl) gC kC bC .nil pass0 (pa_cons (pe_ngetK P w (pv 5) (pv 9) (fun _ _ => rfl)) (pa_cons (pe_ngetK P w (pv 5) (pv 10) (fun _ _ => rfl)) pa_nil)))))))) (fun _ _ _ _ _ => pe_tup (pa_cons (pv 9) (pa_cons (pv 10) pa_nil))))))))
(pss_cons (ps_for PassesOwn.never rfl (pi_range1 (by rfl) T.range (pa_cons pe_int pa_nil)) (pg_name (i := 11) scLQ.nd rfl (Or.inl rfl))
(pss_cons (ps_asg (pe_tup (pa_cons (pe_call GO hr2 (by rfl) gO_ kO bO .nil pass0 (pa_cons (pv 0) (pa_cons (pv 7) pa_nil))) (pa_cons (pe_call GO hr2 (by rfl) gO_ kO bO .nil pass0 (pa_cons (pv 0) (pa_cons (pv 7) pa_nil))) pa_nil))) (pg_tup rfl (pgs_cons (pg_name (i := 9) scLQ.nd rfl (Or.inr rfl)) (pgs_cons (pg_name (i := 10) scLQ.nd rfl (Or.inl rfl)) pgs_nil))))
(pss_cons (ps_if (PW.pt (pw_and (pt_cmpR (op_neD hr.units) (pv 8) (pe_lst pa_nil) (nomark _)) (pw_and1 (pt_cmpR op_lt (pv 11) pe_int (nomark _)))))
(pss_one (ps_asg (pe_call GO hr2 (by rfl) gO_ kO bO .nil pass0 (pa_cons (pv 0) (pa_cons (pv 8) pa_nil))) (pg_tup rfl (pgs_cons (pg_name (i := 9) scLQ.nd rfl (Or.inr rfl)) (pgs_cons (pg_name (i := 10) scLQ.nd rfl (Or.inl rfl)) pgs_nil)))))
pss_nil)
(pss_one (ps_for PassesOwn.never rfl (pi_sq (pe_tup (pa_cons pe_str (pa_cons pe_str pa_nil)))) (pg_name (i := 12) scLQ.nd rfl (Or.inl rfl))
(pss_one (ps_if (pt_cmpR op_ne (pe_callB (call_reprK K hgd hr.units hmd) (by rfl) T.repr (by decide +kernel) (pa_cons (pe_call GSh hr10 (by rfl) gSh kSh bSh .nil pass0 (pa_cons (pv 4) (pa_cons (pe_make MQ GQi hr4 (by rfl) AQ.mg bQi .nil pass0 (pa_cons (pv 12) (pa_cons (pv 9) (pa_cons (pv 10) pa_nil)))) pa_nil))) pa_nil)) (pe_callB (call_reprK K hgd hr.units hmd) (by rfl) T.repr (by decide +kernel) (pa_cons (pe_call GIQ hr4 (by rfl) gIQ kIQ bIQ .nil pass0 (pa_cons (pv 3) (pa_cons (pv 12) (pa_cons (pv 9) (pa_cons (pv 10) pa_nil))))) pa_nil)) (nomark _))
(pss_one (ps_ret pe_bl))
pss_nil)))))))
(pss_cons (ps_setLc (i := 13) (own := [("spot", 14), ("row", 6)]) (by rfl) scLQ.nd rfl rfl (sw_true rfl rfl rfl (by decide +kernel)) (pi_enum (by rfl) T.enum (pa_cons (pv 3) pa_nil)) (blkOk_by (own := [("spot", 14), ("row", 6)]) (N := ["well", "rows", "at", "later", "made", "some", "row", "lots", "pairs_so", "one", "other", "turn", "word", "gets", "spot", "told"]) (sc := defScope sLQ) (by decide +kernel)) (fun _ _ _ _ _ => pg_tupK (n := 2) K rfl ((pgs_cons (pg_name (i := 14) scLQ.nd rfl (Or.inl rfl)) (pgs_cons (pg_name (i := 6) scLQ.nd rfl (Or.inl rfl)) pgs_nil)))) (fun _ _ _ _ _ => pts_one (pt_cmpR op_notN (pe_ix (ix_seqK K) (pv 6) pe_int (fun _ _ => rfl)) pe_non (nomark _))) (fun _ _ _ _ _ => pv 14))
(pss_cons (ps_set (i := 14) scLQ.nd rfl (Or.inl rfl) (pe_ifExp (pt_cmpR (op_neD hr.units) (pv 13) (pe_lst pa_nil) (nomark _)) (pe_call GO hr2 (by rfl) gO_ kO bO .nil pass0 (pa_cons (pv 0) (pa_cons (pv 13) pa_nil))) pe_int))
(pss_cons (ps_set (i := 15) scLQ.nd rfl (Or.inl rfl) (pe_ix (ix_seqK K) (pe_ix (ix_seqK K) (pv 3) (pv 14) (fun _ _ => rfl)) pe_int (fun _ _ => rfl)))
(pss_one (ps_ret (pe_cmpR op_eq (pe_callB (call_reprK K hgd hr.units hmd) (by rfl) T.repr (by decide +kernel) (pa_cons (pe_call GSh hr10 (by rfl) gSh kSh bSh .nil pass0 (pa_cons (pv 4) (pa_cons (pe_make MQ GQi hr4 (by rfl) AQ.mg bQi .nil pass0 (pa_cons pe_str (pa_cons (pv 14) (pa_cons (pv 15) pa_nil)))) pa_nil))) pa_nil)) (pe_callB (call_reprK K hgd hr.units hmd) (by rfl) T.repr (by decide +kernel) (pa_cons (pe_call GIQ hr4 (by rfl) gIQ kIQ bIQ .nil pass0 (pa_cons (pv 3) (pa_cons pe_str (pa_cons (pv 14) (pa_cons (pv 15) pa_nil))))) pa_nil)) (nomark _))))))))))))), ?_⟩
    obtain ⟨ps0, ha0, lp0, _⟩ := id hh
    refine ⟨.ref p, rfl, .ref a, rfl, .ref a, _, rfl, .inl ⟨_, SqL.of ha0, rfl⟩, p, c, cells, n, _, rfl, pn, by omega, by rw [List.length_map]; omega, by rw [List.length_map]; omega, fun at_ H1 a0 a1 pn1 k1 => nx_go ?_⟩
    rw [List.length_map, lp0] at a1
    have hh1 := rows_kept pn k1 hh
    clear ha0 lp0
    obtain ⟨i0, rfl⟩ : ∃ i : Nat, at_ = i := ⟨at_.toNat, by omega⟩
    have il : i0 < rs.length := by omega
    obtain ⟨ps, ha, lp, hp⟩ := id hh1
    have ilp : i0 < ps.length := by omega
    have er : rs[i0]? = some rs[i0] := List.getElem?_eq_getElem il
    have hpi := hp i0 ps[i0] rs[i0] (List.getElem?_eq_getElem ilp) er
    have ai : atI (ps.map V.ref) (i0 : Int) = some (.ref ps[i0]) := at_nat (by rw [List.getElem?_map, List.getElem?_eq_getElem ilp]; rfl)
    have sq : Sq K H1 a (ps.map V.ref) := .inl (SqL.of ha)
    refine ⟨.ref a, rfl, _, rfl, i0, rfl, a, _, rfl, SqL.of ha, fun L1 hL1 => ?_⟩
    have s1 := same_new (o := .lst (cutV (ps.map V.ref) none (some (i0 : Int)))) hL1
    have fL1 : upd H1 L1 (.lst (cutV (ps.map V.ref) none (some (i0 : Int)))) L1 = some (.lst (cutV (ps.map V.ref) none (some (i0 : Int)))) := upd_same
    generalize upd H1 L1 (.lst (cutV (ps.map V.ref) none (some (i0 : Int)))) = H2 at s1 fL1 ⊢
    have nL1 := (pn1.nn hL1).1
    have tq : SqT K H2 ps[i0] (rowV rs[i0]) := SqT.of (s1 _ _ hpi)
    refine ⟨.ref a, rfl, _, rfl, Sq.ix (Sq.mono s1 sq) ai ⟨3, rfl, slA_go tq fun t2 H3 q2 s2 => ?_⟩⟩
    have ct : cutV (rowV rs[i0]) none (some 3) = [.str rs[i0].c, .str (wd rs[i0].g), .int rs[i0].b] := rfl
    rw [ct] at q2
    have s12 := s1.trans s2
    have pn3 := pn1.mono s12 (Nat.le_refl _)
    refine ⟨_, rfl, _, rfl, Sq.ix (Sq.mono s12 sq) ai (Sq.ix (.inr (SqT.of (s12 _ _ hpi))) rfl ⟨rs[i0].b, 1, rfl, rfl, .ref p, rfl, p, c, cells, n + 1, _, rfl, pn3, by omega, by decide, by decide, fun dr H4 dr0 dr1 pn4 k4 => ?_⟩)⟩
    have q4 := sqT_kept pn3 k4 q2
    have fL1 := k4 _ _ nL1 (s2 _ _ fL1)
    have hh4 := rows_kept pn3 k4 (hh1.mono s12)
    have hpi4 : RowAt H4 ps[i0] rs[i0] := by
      obtain ⟨x, g, hpp, _⟩ := pn3.ex
      refine k4 _ _ (fun z => ?_) (s12 _ _ hpi)
      have := s12 _ _ hpi
      rw [z, hpp] at this
      cases this
    have ha4 : H4 a = some (.lst (ps.map V.ref)) := k4 _ _ (fun z => by
      obtain ⟨x, g, hpp, _⟩ := pn3.ex
      have e := s12 _ _ ha
      rw [z, hpp] at e
      have e := HO.lst.inj (Option.some.inj e)
      rcases ps with _ | ⟨_, _ | ⟨_, _⟩⟩ <;> cases e) (s12 _ _ ha)
    have hp4 : ∀ (k : Nat) q r, ps[k]? = some q → rs[k]? = some r → RowAt H4 q r := fun k q r e1 e2 => k4 _ _ (fun z => by
      obtain ⟨x, g, hpp, _⟩ := pn3.ex
      have e := s12 _ _ (hp k q r e1 e2)
      rw [z, hpp] at e
      cases e) (s12 _ _ (hp k q r e1 e2))
    have kA := k1.trans ((Kept.of s12).trans k4)
    refine ⟨_, _, rfl, rfl, _, rfl, _, rfl, Sq.ix (.inl (SqL.of ha4)) ai (Sq.ix (.inr (SqT.of hpi4)) rfl ⟨by show 2 ≤ sizeLine; decide, fun t5 ht5 => ?_⟩)⟩
    have s5 := same_new (o := .tup [.int (rs[i0].b + 1 + dr), oV rs[i0].t]) ht5
    refine ⟨t2, t5, _, _, rfl, rfl, sqT_mono s5 q4, SqT.of upd_same, by show 5 ≤ sizeLine; decide, (fun z => nomatch z), (fun _ z => nomatch z), fun _ _ T hT => ?_⟩
    have s6 := s5.trans (same_new (o := .tup ([.str rs[i0].c, .str (wd rs[i0].g), .int rs[i0].b] ++ [.int (rs[i0].b + 1 + dr), oV rs[i0].t])) hT)
    have hTr : RowAt (upd (upd H4 t5 (.tup [.int (rs[i0].b + 1 + dr), oV rs[i0].t])) T (.tup ([.str rs[i0].c, .str (wd rs[i0].g), .int rs[i0].b] ++ [.int (rs[i0].b + 1 + dr), oV rs[i0].t]))) T (lat rs[i0] (rs[i0].b + 1 + dr)) := upd_same
    generalize upd (upd H4 t5 (.tup [.int (rs[i0].b + 1 + dr), oV rs[i0].t])) T (.tup ([.str rs[i0].c, .str (wd rs[i0].g), .int rs[i0].b] ++ [.int (rs[i0].b + 1 + dr), oV rs[i0].t])) = H6 at s6 hTr ⊢
    refine ⟨by show 1 ≤ sizeLine; decide, fun L2 hL2 => ?_⟩
    have s7 := same_new (o := .lst [.ref T]) hL2
    have cl : (cutV (ps.map V.ref) none (some (i0 : Int))).length ≤ 1000 := Nat.le_trans (cutV_length _ _ _) (by rw [List.length_map]; omega)
    refine ⟨L1, L2, _, _, rfl, rfl, s7 _ _ (s6 _ _ fL1), upd_same, Nat.le_trans (show _ + 1 ≤ 2000 by omega) (by decide), fun L3 hL3 => ?_⟩
    have s8 := same_new (o := .lst (cutV (ps.map V.ref) none (some (i0 : Int)) ++ [.ref T])) hL3
    have s68 := s6.trans (s7.trans s8)
    refine ⟨.ref a, rfl, _, rfl, i0, 1, rfl, rfl, _, rfl, np_go ⟨a, _, rfl, SqL.of (s68 _ _ ha4), fun L4 hL4 => ?_⟩⟩
    have cl2 : (cutV (ps.map V.ref) (some ((i0 : Int) + 1)) none).length ≤ 1000 := Nat.le_trans (cutV_length _ _ _) (by rw [List.length_map]; omega)
    have s9 := same_new (o := .lst (cutV (ps.map V.ref) (some ((i0 : Int) + 1)) none)) hL4
    refine ⟨L3, L4, _, _, rfl, rfl, s9 _ _ upd_same, upd_same, Nat.le_trans (show _ ≤ 3000 by rw [List.length_append]; show _ + 1 + _ ≤ 3000; omega) (by decide), fun L hL => nx_go ?_⟩
    have lc : cutV (ps.map V.ref) none (some (i0 : Int)) ++ [.ref T] ++ cutV (ps.map V.ref) (some ((i0 : Int) + 1)) none = (ps.set i0 T).map V.ref := by
      rw [(cut_to (xs := ps.map V.ref) (i := i0) (by rw [List.length_map]; exact ilp)).1, cut_from (i := i0 + 1) (by omega) (by rw [List.length_map]; omega), List.set_eq_take_append_cons_drop, if_pos ilp, List.map_append, List.map_cons, ← List.map_take, ← List.map_drop, List.append_assoc]
      rfl
    rw [lc]
    have s10 := s9.trans (same_new (o := .lst ((ps.set i0 T).map V.ref)) hL)
    have fL : ∀ X : Hp, upd X L (.lst ((ps.set i0 T).map V.ref)) L = some (.lst ((ps.set i0 T).map V.ref)) := fun _ => upd_same
    have sB := s68.trans s10
    have rows : RowsAt (upd (upd (upd (upd H6 L2 (.lst [.ref T])) L3 (.lst (cutV (ps.map V.ref) none (some (i0 : Int)) ++ [.ref T]))) L4 (.lst (cutV (ps.map V.ref) (some ((i0 : Int) + 1)) none))) L (.lst ((ps.set i0 T).map V.ref))) L (rs.set i0 (lat rs[i0] (rs[i0].b + 1 + dr))) := by
      refine ⟨ps.set i0 T, fL _, by rw [List.length_set, List.length_set, lp], fun k q' r' e1 e2 => ?_⟩
      rw [List.getElem?_set] at e1 e2
      by_cases z : i0 = k
      · subst z
        rw [if_pos rfl, if_pos ilp] at e1
        rw [if_pos rfl, if_pos il] at e2
        cases e1
        cases e2
        exact (s7.trans (s8.trans s10)) _ _ hTr
      · rw [if_neg z] at e1 e2
        exact sB _ _ (hp4 k q' r' e1 e2)
    generalize upd (upd (upd (upd H6 L2 (.lst [.ref T])) L3 (.lst (cutV (ps.map V.ref) none (some (i0 : Int)) ++ [.ref T]))) L4 (.lst (cutV (ps.map V.ref) (some ((i0 : Int) + 1)) none))) L (.lst ((ps.set i0 T).map V.ref)) = H7 at sB rows ⊢
    have pn7 := pn4.mono sB (Nat.le_refl _)
    have kB := kA.trans (Kept.of sB)
    have ok' := set_ok er ok (show rs[i0].b < rs[i0].b + 1 + dr by omega)
    have hs' := set_cl (e := rs[i0].b + 1 + dr) er hs
    have nb' := set_nb (e := rs[i0].b + 1 + dr) er nb
    have len' : (rs.set i0 (lat rs[i0] (rs[i0].b + 1 + dr))).length = rs.length := List.length_set
    have en' : ∀ r ∈ rs.set i0 (lat rs[i0] (rs[i0].b + 1 + dr)), r.e ≠ none := fun r m => by
      rcases List.mem_or_eq_of_mem_set m with m | rfl
      · exact en _ m
      · exact fun z => nomatch z
    generalize rs.set i0 (lat rs[i0] (rs[i0].b + 1 + dr)) = rt at rows ok' hs' nb' len' en' ⊢
    clear hTr fL lc s10 sB s9 cl2 s8 s68 cl s7 s6 s5 hp4 ha4 hpi4 hh4 fL1 q4 s12 s2 s1 tq nL1 sq ai hpi hp lp ha hh1
    obtain ⟨pt, hLt, lpt, hpt⟩ := id rows
    refine ⟨.ref L, rfl, L, rfl, ⟨_, SqL.of hLt⟩, fun M hM0 => made_lc rows ok' (by omega) hs' hM0 (fun _ => rfl) (fun _ => rfl) fun ms H8 am hM s8 => ?_⟩
    refine ⟨_, rfl, L, rt, rfl, rows.mono s8, by omega, ok', nb', fun D H9 s9 lz => ⟨by show 2 ≤ sizeLine; decide, fun t0 ht0 => ⟨t0, _, rfl, SqT.of upd_same, rfl, _, _, rfl, _, _, rfl, rfl, nx_go (nx_go ?_)⟩⟩⟩
    obtain ⟨kvs, hD, zd⟩ := lz
    have s10 := same_new (o := .tup [.ref M, .ref D]) ht0
    refine ⟨_, rfl, D, kvs, rfl, .inl (s10 _ _ hD), fun LT hLT => ⟨Nat.zero_le _, fun PS hPS => ⟨_, _, rfl, ?_⟩⟩⟩
    rw [zd_keys zd] at hPS ⊢
    have s11 := same_new (o := .lst ((keysL (lzOf rt)).map oV)) hLT
    have s12 := s10.trans (s11.trans (same_new (o := .lst []) hPS))
    have fLT : upd (upd (upd H9 t0 (.tup [.ref M, .ref D])) LT (.lst ((keysL (lzOf rt)).map oV))) PS (.lst []) LT = some (.lst ((keysL (lzOf rt)).map oV)) := (same_new hPS) _ _ upd_same
    have fPS : upd (upd (upd H9 t0 (.tup [.ref M, .ref D])) LT (.lst ((keysL (lzOf rt)).map oV))) PS (.lst []) PS = some (.lst []) := upd_same
    have nM := (pn7.nn hM0).1
    have pn10 := pn7.mono (s8.trans (s9.trans s10)) (Nat.le_refl _)
    have nLT := (pn10.nn hLT).1
    have nPS := ((pn10.mono s11 (Nat.le_refl _)).nn hPS).1
    generalize upd (upd (upd H9 t0 (.tup [.ref M, .ref D])) LT (.lst ((keysL (lzOf rt)).map oV))) PS (.lst []) = HA at s12 fLT fPS ⊢
    have s79 := s8.trans (s9.trans s12)
    have rowsA := rows.mono s79
    have hMA := (s9.trans s12) _ _ hM
    have amA := ask_mono (s9.trans s12) am
    have hDA := s12 _ _ hD
    have zdA := zd.mono fun q x e => s12 _ _ e
    have pnA := pn7.mono s79 (Nat.le_refl _)
    have kC := kB.trans (Kept.of s79)
    have kl : (keysL (lzOf rt)).length ≤ 1000 := by
      unfold keysL
      rw [List.length_map]
      have := lzF_len rt (partsOf rt) []
      have := parts_le rt
      show (lzOf rt).length ≤ 1000
      unfold lzOf lzF
      show _ ≤ _
      simp only [List.length_nil, Nat.zero_add] at *
      omega
    have k0 : 0 < (keysL (lzOf rt)).length := by
      have e0 : rt[0]? = some rt[0] := List.getElem?_eq_getElem (by omega)
      have m0 : 0 ∈ partsOf rt := mem_parts.mpr ⟨_, e0, by
        have := en' _ (List.getElem_mem (show 0 < rt.length by omega))
        cases he : rt[0].e with
        | none => exact absurd he this
        | some _ => rfl⟩
      exact List.length_pos_of_mem ((key_has ok').mpr ⟨0, m0, rfl⟩)
    have kh : ∀ k ∈ keysL (lzOf rt), ∃ qz e b, valV kvs (nk k) = some (.ref qz) ∧ HA qz = some (.tup [.int e, .int b]) := fun k m => by
      have hk := (key_has ok').mp m
      have zk := zd_val (k := k) zdA
      rw [lz_some ok' hk] at zk
      obtain ⟨qz, e1, e2⟩ := zk
      exact ⟨qz, _, _, e1, e2⟩
    generalize keysL (lzOf rt) = ls at fLT kl k0 kh ⊢
    clear zd hD zdA s12 s11 s10 s9 s8 hPS hLT ht0 hM hM0 am hLt lpt hpt rows pn10
    refine ⟨.ref LT, rfl, _, rfl, LT, _, rfl, SqL.of fLT, fun L40 hL40 => ?_⟩
    have sF := same_new (o := .lst (cutV (ls.map oV) none (some 40))) hL40
    have fF : upd HA L40 (.lst (cutV (ls.map oV) none (some 40))) L40 = some (.lst (cutV (ls.map oV) none (some 40))) := upd_same
    generalize upd HA L40 (.lst (cutV (ls.map oV) none (some 40))) = HB at sF fF ⊢
    have c40 : (cutV (ls.map oV) none (some 40)).length ≤ 40 := (cut_lo (ls.map oV) 40).1
    have cin : ∀ x ∈ cutV (ls.map oV) none (some 40), ∃ k ∈ ls, x = oV k := fun x m => by
      obtain ⟨k, mk, rfl⟩ := List.mem_map.mp (cutV_mem m)
      exact ⟨k, mk, rfl⟩
    generalize cutV (ls.map oV) none (some 40) = x40 at c40 cin fF ⊢
    refine ⟨L40, rfl, ⟨_, SqL.of fF⟩, ?_⟩
    refine for_it (walk_list (K := K) (a := L40) (xs := x40)) (fun i σ H' => ∃ PS' prs x9, σ = [some (.ref p), some (.ref a), some (.int (i0 : Nat)), some (.ref L), some (.ref M), some (.ref D), none, some (.ref LT), some (.ref PS'), x9, none, none, none, none, none, none] ∧ PS' ≠ p ∧ H' PS' = some (.lst (prs.map V.ref)) ∧ (∀ q ∈ prs, ∃ k l, H' q = some (.tup [oV k, oV l])) ∧ prs.length ≤ 1000 * i ∧ Same HB H') ⟨PS, [], _, rfl, nPS, sF _ _ fPS, (fun q m => nomatch m), Nat.le_refl _, Same.refl _⟩ (fun i σ H' _ ⟨_, _, _, _, _, _, _, _, e⟩ => SqL.of (e _ _ fF)) ?_ ?_
    · rintro i x σ H1 H3 hi ⟨PS', prs, x9, rfl, nP', fP', pr', lpr, e1⟩ ⟨rfl, hx⟩
      obtain ⟨k, mk, rfl⟩ := cin x (List.mem_of_getElem? hx)
      obtain ⟨qk, ek, bk, vk, hk⟩ := kh k mk
      refine nx_go ?_
      have eA := sF.trans e1
      refine ⟨.ref PS', rfl, .ref LT, rfl, LT, rfl, ⟨_, SqL.of (eA _ _ fLT)⟩, fun R hR => ?_⟩
      refine lc_it (walk_list (K := K) (a := LT) (xs := ls.map oV)) (fun j H' => ∃ qs : List Addr, H' R = some (.lst (qs.map V.ref)) ∧ (∀ q ∈ qs, ∃ k l, H' q = some (.tup [oV k, oV l])) ∧ qs.length ≤ j ∧ Same H3 H') ⟨[], upd_same, (fun q m => nomatch m), Nat.le_refl _, same_new hR⟩ (fun i H' _ ⟨_, _, _, _, e⟩ => SqL.of ((eA.trans e) _ _ fLT)) ?_ ?_
      · rintro j y H4 H5 hj ⟨qs, fR, pq, lq, e4⟩ ⟨rfl, hy⟩
        obtain ⟨l, ml, rfl⟩ : ∃ l ∈ ls, y = oV l := by
          obtain ⟨l, ml, e⟩ := List.mem_map.mp (List.mem_of_getElem? hy)
          exact ⟨l, ml, e.symm⟩
        obtain ⟨ql, el, bl, vl, hl'⟩ := kh l ml
        have eB := eA.trans e4
        have hj2 : j < ls.length := by rw [List.length_map] at hj; exact hj
        have no : ∃ qs : List Addr, H5 R = some (.lst (qs.map V.ref)) ∧ (∀ q ∈ qs, ∃ k l, H5 q = some (.tup [oV k, oV l])) ∧ qs.length ≤ j + 1 ∧ Same H3 H5 := ⟨qs, fR, pq, by omega, e4⟩
        refine ⟨rfl, _, rfl, _, rfl, by cases k <;> cases l <;> rfl, !decide (l = k), by rw [eq_oV], ?_⟩
        cases decide (l = k) with
        | true => exact iteF' (iteF' no)
        | false =>
          refine iteT' ⟨_, rfl, _, rfl, D, kvs, nk k, _, rfl, .inl (eB _ _ hDA), (nk_v k).symm, vk, _, rfl, _, rfl, D, kvs, nk l, _, rfl, .inl (eB _ _ hDA), (nk_v l).symm, vl, ?_⟩
          refine ⟨qk, ql, _, _, _, _, rfl, eB _ _ hk, eB _ _ hl', decide (ek < bl) && decide (el < bk), rfl, ?_⟩
          cases decide (ek < bl) && decide (el < bk) with
          | false => exact iteF' no
          | true =>
            refine iteT' ⟨_, rfl, _, rfl, by show 2 ≤ sizeLine; decide, fun t ht => ?_⟩
            have nT : t ≠ R := fun z => by rw [z, fR] at ht; cases ht
            refine ⟨_, by rw [upd_ne nT.symm]; exact fR, ?_, qs ++ [t], by rw [upd_same, List.map_append]; rfl, fun q m => ?_, by rw [List.length_append]; show _ + 1 ≤ _; omega, fun b o e => ?_⟩
            · rw [List.length_map]
              exact Nat.lt_of_le_of_lt (show qs.length ≤ 1000 by omega) (by decide)
            · rcases List.mem_append.mp m with m | m
              · obtain ⟨k', l', e⟩ := pq q m
                refine ⟨k', l', ?_⟩
                rw [upd_ne (fun z => by rw [z, fR] at e; cases e), upd_ne (ne_of_none e ht)]
                exact e
              · obtain rfl := List.mem_singleton.mp m
                refine ⟨k, l, ?_⟩
                rw [upd_ne nT]
                exact upd_same
            · rw [upd_ne (ne_of_none e hR), upd_ne (ne_of_none (e4 _ _ e) ht)]
              exact e4 _ _ e
      · rintro H4 ⟨qs, fR, pq, lq, e4⟩
        rw [List.length_map] at lq
        have x40l : i < 40 := by omega
        refine ⟨PS', R, _, _, rfl, rfl, e4 _ _ fP', fR, Nat.le_trans (show _ ≤ 41000 by rw [List.length_map, List.length_map]; omega) (by decide), fun P2 hP2 => ?_⟩
        have s4 := same_new (o := .lst (prs.map V.ref ++ qs.map V.ref)) hP2
        have eC := (eA.trans e4)
        refine ⟨P2, prs ++ qs, _, rfl, ((pnA.mono eC (Nat.le_refl _)).nn hP2).1, by rw [upd_same, List.map_append], fun q m => ?_, by rw [List.length_append]; omega, e1.trans (e4.trans s4)⟩
        rcases List.mem_append.mp m with m | m
        · obtain ⟨k', l', e⟩ := pr' q m
          exact ⟨k', l', (e4.trans s4) _ _ e⟩
        · obtain ⟨k', l', e⟩ := pq q m
          exact ⟨k', l', s4 _ _ e⟩
    rintro σ H1 ⟨PS', prs, x9, rfl, nP', fP', pr', lpr, e1⟩
    have eA := sF.trans e1
    have f1 : FrL C p L M LT PS' rt ms ls prs H1 := ⟨rowsA.mono eA, eA _ _ hMA, nM, ask_mono eA amA, eA _ _ fLT, nLT, fP', nP', pr'⟩
    have pn1' := pnA.mono eA (Nat.le_refl _)
    have kD := kC.trans (Kept.of eA)
    have lpr : prs.length ≤ 40000 := by omega
    clear kC eA e1 nP' fP' pr' fPS nPS fLT nLT hMA nM amA rowsA hDA kh cin fF sF pnA
    refine ⟨6, rfl, by decide, by decide, for_range (n := 6) (fun i σ H' => ∃ x9 x10 x11 x12, σ = [some (.ref p), some (.ref a), some (.int (i0 : Nat)), some (.ref L), some (.ref M), some (.ref D), none, some (.ref LT), some (.ref PS'), x9, x10, x11, x12, none, none, none] ∧ FrL C p L M LT PS' rt ms ls prs H' ∧ PenAt H' p c cells (n + 2 + 3 * i) ∧ Kept p H H') ⟨_, _, _, _, rfl, f1, pn1', kD⟩ ?_ ?_⟩
    · rintro i σ H2 hi ⟨x9, x10, x11, x12, rfl, f2, pn2, k2⟩
      show gName 11 (V.int (0 + (i : Int))) _ _ _
      rw [Int.zero_add]
      refine nx_go ?_
      have lsl : (ls.map oV).length = ls.length := List.length_map _
      refine ⟨_, rfl, _, rfl, p, c, LT, cells, n + 2 + 3 * i, _, rfl, pn2, by omega, f2.hL, f2.nL, by omega, by omega, fun m1 one H3 ex1 pn3 k3 => ?_⟩
      have f3 := f2.kept pn2 k3
      refine ⟨_, rfl, _, rfl, p, c, LT, cells, n + 2 + 3 * i + 1, _, rfl, pn3, by omega, f3.hL, f3.nL, by omega, by omega, fun m2 other H4 ex2 pn4 k4 => ?_⟩
      have f4 := f3.kept pn3 k4
      have k24 := k2.trans (k3.trans k4)
      have oone : okV one = true := by
        obtain ⟨k, _, rfl⟩ := List.mem_map.mp (List.mem_of_getElem? ex1)
        exact okV_oV k
      have ooth : okV other = true := by
        obtain ⟨k, _, rfl⟩ := List.mem_map.mp (List.mem_of_getElem? ex2)
        exact okV_oV k
      refine ⟨by show 2 ≤ sizeLine; decide, fun t0 ht0 => ⟨t0, _, rfl, SqT.of upd_same, rfl, _, _, rfl, _, _, rfl, rfl, nx_go (nx_go ?_)⟩⟩
      have s5 := same_new (o := .tup [one, other]) ht0
      have f5 := f4.mono s5
      have pn5 := pn4.mono s5 (Nat.le_refl _)
      have k5 := k24.trans (Kept.of s5)
      generalize upd H4 t0 (.tup [one, other]) = H5 at f5 pn5 k5 ⊢
      clear f2 f3 f4 pn2 pn3 k2 k3 k4 k24 ex1 ex2 s5 ht0
      dsimp only
      refine if_due3 (fun σ' H' => ∃ one other, okV one = true ∧ okV other = true ∧ σ' = [some (.ref p), some (.ref a), some (.int (i0 : Nat)), some (.ref L), some (.ref M), some (.ref D), none, some (.ref LT), some (.ref PS'), some one, some other, some (.int (i : Nat)), x12, none, none, none] ∧ FrL C p L M LT PS' rt ms ls prs H' ∧ PenAt H' p c cells (n + 2 + 3 * i + 3) ∧ Kept p H H') (fun Dn z => ?_) (fun σ' H6 ⟨one, other, oone, ooth, eσ, f6, pn6, k6⟩ => ?_)
      · refine ifs_go ⟨_, rfl, Nat.zero_le _, fun t ht => ?_⟩
        have s6 := same_new (o := .lst []) ht
        have f6 := f5.mono s6
        have pn6 := pn5.mono s6 (Nat.le_refl _)
        have k6 := k5.trans (Kept.of s6)
        have ft : upd H5 t (.lst []) t = some (.lst []) := upd_same
        generalize upd H5 t (.lst []) = H6 at f6 pn6 k6 ft ⊢
        obtain ⟨ds, d1, d2, d3, d4⟩ := prs_dp (K := K) f6.pr
        refine ⟨_, _, Dp.lst (SqL.of f6.hP) d1, Dp.lst (SqL.of ft) .nil, lst_shaped d3 d4, by decide +kernel, !ds.isEmpty, by rw [eqv_nil'], ?_⟩
        have out := z _ _ ⟨one, other, oone, ooth, rfl, f6, pn6.more (by omega), k6⟩
        cases hE : ds.isEmpty with
        | true => exact iteF' (iteF' out)
        | false =>
          refine iteT' ⟨_, rfl, _, 2, rfl, rfl, decide ((i : Int) < 2), rfl, ?_⟩
          cases decide ((i : Int) < 2) with
          | false => exact iteF' out
          | true =>
            have pl : 0 < prs.length := by
              rw [← d2]
              cases ds with
              | nil => cases hE
              | cons _ _ => exact Nat.succ_pos _
            refine iteT' ⟨_, rfl, _, rfl, p, c, PS', cells, n + 2 + 3 * i + 2, _, rfl, pn6.more (by omega), by omega, f6.hP, f6.nP, by rw [List.length_map]; exact pl, by rw [List.length_map]; omega, fun m x H7 ex pn7 k7 => ?_⟩
            have f7 := f6.kept pn6 k7
            obtain ⟨q', mq, rfl⟩ := List.mem_map.mp (List.mem_of_getElem? ex)
            obtain ⟨k', l', e'⟩ := f7.pr q' mq
            exact ⟨q', _, rfl, SqT.of e', rfl, _, _, rfl, _, _, rfl, rfl, nx_go (nx_go (z _ _ ⟨oV k', oV l', okV_oV k', okV_oV l', rfl, f7, pn7, k6.trans k7⟩))⟩
      · subst eσ
        refine ⟨by show 2 ≤ sizeLine; decide, fun t ht => ⟨t, _, rfl, .inr (SqT.of upd_same), fun J G wk hG => ?_⟩⟩
        have s7 := same_new (o := .tup [.str "lots", .str "future"]) ht
        generalize upd H6 t (.tup [.str "lots", .str "future"]) = H7 at s7 hG ⊢
        refine for_it wk (fun _ σ H' => ∃ x12, σ = [some (.ref p), some (.ref a), some (.int (i0 : Nat)), some (.ref L), some (.ref M), some (.ref D), none, some (.ref LT), some (.ref PS'), some one, some other, some (.int (i : Nat)), x12, none, none, none] ∧ Same H7 H') ⟨_, rfl, Same.refl _⟩ (fun _ σ H' _ ⟨_, _, e⟩ => hG _ e) ?_ ?_
        · rintro k word σ H8 H8' hk ⟨x5, rfl, e8⟩ ⟨rfl, hz⟩
          have owo : okV word = true := by
            rcases k with _ | _ | k
            · obtain rfl : V.str "lots" = word := Option.some.inj hz
              decide +kernel
            · obtain rfl : V.str "future" = word := Option.some.inj hz
              decide +kernel
            · cases hz
          have f8 := f6.mono (s7.trans e8)
          obtain ⟨c1, cp1, cs1⟩ := Itm.cpb (K := K) (H := H8') (p := p) (.inl owo)
          obtain ⟨c2, cp2, _⟩ := Itm.cpb (K := K) (H := H8') (p := p) (.inl oone)
          obtain ⟨c3, cp3, _⟩ := Itm.cpb (K := K) (H := H8') (p := p) (.inl ooth)
          refine nx_go ?_
          obtain ⟨b1, b2, b3⟩ := bool_tell' (quarB rt c1 c2 c3)
          refine ⟨_, rfl, _, rfl, _, rfl, _, rfl, fun x dx hx hdx ne => qua_go hx hdx ne cp1 cp2 cp3 fun H9 s9 qd => ?_⟩
          have f9 := f8.mono s9
          refine ⟨M, rt, .ref x, quarB rt c1 c2 c3, rfl, ⟨ms, .inl (SqL.of f9.hM), f9.am⟩, by omega, ok', nb', .inr (.inl ⟨x, c1, c2, c3, rfl, qd, rfl⟩), fun H10 s10 => ?_⟩
          have sC := s9.trans s10
          refine ⟨.bl _, .bool (quarB rt c1 c2 c3), rfl, .bl _, b1, b2, b3, _, rfl, _, rfl, _, rfl, _, rfl, L, rt, _, c1, _, c2, _, c3, rfl, (f9.mono s10).rw_, by omega, ok', nb', Dv.mono sC cp1.dv, cs1, Dv.mono sC cp2.dv, Dv.mono sC cp3.dv, fun H11 s11 => ?_⟩
          refine ⟨.bl _, .bool (quarB rt c1 c2 c3), rfl, .bl _, b1, b2, b3, rfl, false, ne_self, iteF' ?_⟩
          exact ⟨_, rfl, e8.trans (sC.trans s11)⟩
        · rintro σ H8 ⟨x5, rfl, e8⟩
          exact ⟨_, _, _, _, rfl, f6.mono (s7.trans e8), (pn6.mono (s7.trans e8) (Nat.le_refl _)).more (by omega), k6.trans (Kept.of (s7.trans e8))⟩
    · rintro σ H2 ⟨x9, x10, x11, x12, rfl, f2, pn2, k2⟩
      obtain ⟨pt, hLt, lpt, hpt⟩ := id f2.rw_
      have ptl : (pt.map V.ref).length = rt.length := by rw [List.length_map, lpt]
      refine ⟨.ref L, rfl, L, _, rfl, SqL.of hLt, fun G hG => ?_⟩
      refine lc_it (walk_enum (K := K) (a := L) (xs := pt.map V.ref)) (fun j H' => ∃ gs : List Nat, H' G = some (.lst (nats gs)) ∧ (∀ g ∈ gs, g < rt.length) ∧ gs.length ≤ j ∧ Same H2 H') ⟨[], upd_same, (fun _ m => nomatch m), Nat.le_refl _, same_new hG⟩ (fun i H' _ ⟨_, _, _, _, e⟩ => SqL.of (e _ _ hLt)) ?_ ?_
      · rintro j x H3 H4 hj ⟨gs, hg, gm, gl, s3⟩ ⟨T0, xa, xb, rfl, hT0, rfl, ea, eb⟩
        rw [ptl] at hj
        cases ea
        have erj : rt[j]? = some rt[j] := List.getElem?_eq_getElem hj
        obtain ⟨p1, rfl, row⟩ : ∃ q, xb = .ref q ∧ RowAt H2 q rt[j] := by
          have eb : (pt.map V.ref)[j]? = some xb := eb
          rw [List.getElem?_map, List.getElem?_eq_getElem (show j < pt.length by omega)] at eb
          exact ⟨pt[j]'(by omega), (Option.some.inj eb).symm, hpt j _ _ (List.getElem?_eq_getElem _) erj⟩
        have s4 := s3.trans (same_new (o := .tup [.int (j : Nat), .ref p1]) hT0)
        have ra := s4 _ _ row
        have hg3 : upd H3 T0 (.tup [.int (j : Nat), .ref p1]) G = some (.lst (nats gs)) := by rw [upd_ne (ne_of_none hg hT0)]; exact hg
        refine ⟨T0, [.int (j : Nat), .ref p1], rfl, .inl (.inl upd_same), rfl, _, _, rfl, _, _, rfl, rfl, ?_⟩
        generalize rt[j] = r at ra
        have sqr : Sq K _ p1 (rowV r) := .inr (SqT.of ra)
        generalize upd H3 T0 (.tup [.int (j : Nat), .ref p1]) = H5 at s4 hg3 ra sqr ⊢
        refine ⟨rfl, _, rfl, Sq.ix sqr rfl ⟨rfl, r.t.isSome, by cases r.t <;> rfl, ?_⟩⟩
        cases r.t.isSome with
        | false => exact iteF' ⟨gs, hg3, gm, by omega, s4⟩
        | true =>
          refine iteT' ⟨_, rfl, _, hg3, ?_, gs ++ [j], ?_, fun g m => ?_, by rw [List.length_append]; show _ + 1 ≤ _; omega, fun b o e => by rw [upd_ne (ne_of_none e hG)]; exact s4 b o e⟩
          · unfold nats
            rw [List.length_map]
            exact Nat.lt_of_le_of_lt (show gs.length ≤ 1000 by omega) (by decide)
          · rw [upd_same]
            unfold nats
            rw [List.map_append]
            rfl
          · rcases List.mem_append.mp m with m | m
            · exact gm g m
            · rw [List.mem_singleton.mp m]
              exact hj
      · rintro H3 ⟨gs, hg, gm, gl, s3⟩
        rw [ptl] at gl
        have f3 := f2.mono s3
        have pn3 := pn2.mono s3 (Nat.le_refl _)
        have k3 := k2.trans (Kept.of s3)
        have nG := (pn2.nn hG).1
        refine nx_go ?_
        dsimp only
        refine asg_of (fun v H' => ∃ g : Nat, v = .int (g : Nat) ∧ g < rt.length ∧ FrL C p L M LT PS' rt ms ls prs H' ∧ PenAt H' p c cells (n + 21) ∧ Kept p H H') (fun Qz z => ?_) (fun v H4 ⟨g, ev, gl2, f4, pn4, k4⟩ => nx_go ?_)
        · refine ⟨_, rfl, Nat.zero_le _, fun t ht => ?_⟩
          have s4 := same_new (o := .lst []) ht
          refine ⟨_, _, Dp.lst (SqL.of (s4 _ _ hg)) (by rw [nats_ints]; exact dp_ints _), Dp.lst (SqL.of upd_same) .nil, shaped_ints _, by decide +kernel, !gs.isEmpty, by rw [eqv_nil']; cases gs <;> rfl, ?_⟩
          cases hE : gs.isEmpty with
          | true => exact iteF' (z _ _ ⟨0, rfl, by omega, f3.mono s4, (pn3.mono s4 (Nat.le_refl _)).more (by omega), k3.trans (Kept.of s4)⟩)
          | false =>
            have g0 : 0 < gs.length := by
              cases gs with
              | nil => cases hE
              | cons _ _ => exact Nat.succ_pos _
            have gln : (nats gs).length = gs.length := by unfold nats; rw [List.length_map]
            refine iteT' ⟨_, rfl, _, rfl, p, c, G, cells, n + 20, _, rfl, (pn3.mono s4 (Nat.le_refl _)).more (by omega), by omega, s4 _ _ hg, nG, by omega, by omega, fun m x H5 ex pn5 k5 => ?_⟩
            obtain ⟨g, mg', rfl⟩ : ∃ g : Nat, g ∈ gs ∧ (V.int (g : Nat)) = x := by
              unfold nats at ex
              exact List.mem_map.mp (List.mem_of_getElem? ex)
            exact z _ _ ⟨g, rfl, gm g mg', (f3.mono s4).kept (pn3.mono s4 (Nat.le_refl _)) k5, pn5, (k3.trans (Kept.of s4)).trans k5⟩
        · subst ev
          obtain ⟨pt, hLt, lpt, hpt⟩ := id f4.rw_
          have ptl : g < pt.length := by omega
          have eg : rt[g]? = some rt[g] := List.getElem?_eq_getElem gl2
          have rg := hpt g pt[g] rt[g] (List.getElem?_eq_getElem ptl) eg
          have ag : atI (pt.map V.ref) (g : Int) = some (.ref pt[g]) := at_nat (by rw [List.getElem?_map, List.getElem?_eq_getElem ptl]; rfl)
          refine ⟨_, rfl, _, rfl, Sq.ix (.inl (SqL.of hLt)) ag (Sq.ix (.inr (SqT.of rg)) rfl (nx_go ?_))⟩
          obtain ⟨c1, cp1, cs1⟩ := Itm.cpb (K := K) (H := H4) (p := p) (x := .str "future") (.inl (by decide +kernel))
          obtain ⟨c2, cp2, _⟩ := Itm.cpb (K := K) (H := H4) (p := p) (x := .int (g : Nat)) (.inl rfl)
          obtain ⟨c3, cp3, _⟩ := Itm.cpb (K := K) (H := H4) (p := p) (x := oV rt[g].t) (.inl (okV_oV _))
          obtain ⟨b1, b2, b3⟩ := bool_tell' (quarB rt c1 c2 c3)
          refine ⟨_, rfl, _, rfl, _, rfl, fun x dx hx hdx ne => qua_go hx hdx ne cp1 cp2 cp3 fun H9 s9 qd => ?_⟩
          have f9 := f4.mono s9
          refine ⟨M, rt, .ref x, quarB rt c1 c2 c3, rfl, ⟨ms, .inl (SqL.of f9.hM), f9.am⟩, by omega, ok', nb', .inr (.inl ⟨x, c1, c2, c3, rfl, qd, rfl⟩), fun H10 s10 => ?_⟩
          have sC := s9.trans s10
          refine ⟨.bl _, .bool (quarB rt c1 c2 c3), rfl, .bl _, b1, b2, b3, _, rfl, _, rfl, _, rfl, L, rt, _, c1, _, c2, _, c3, rfl, (f9.mono s10).rw_, by omega, ok', nb', Dv.mono sC cp1.dv, cs1, Dv.mono sC cp2.dv, Dv.mono sC cp3.dv, fun H11 s11 => ?_⟩
          refine ⟨.bl _, .bool (quarB rt c1 c2 c3), rfl, .bl _, b1, b2, b3, rfl, ?_⟩
          rw [decide_eq_true rfl]
          exact q H11 (pn4.mono (sC.trans s11) (by omega)) (k4.trans (Kept.of (sC.trans s11)))
end
end K37
end

section
set_option Elab.async false
set_option linter.all false
set_option maxRecDepth 100000
set_option maxHeartbeats 4000000
/-! an order that is shown is an order -/
namespace K37
open PySem PySem.Spec L2 KZ
section
variable {rs : List Row}
theorem ans_iff : ∀ {o : List Nat} {l : Option Int}, (∀ i ∈ o, i < rs.length) → (ansB rs l o = true ↔ ∀ a x b, o = a ++ x :: b → (isPutAt rs x = true ∨ lotI rs x = OM.lastP (isPutAt rs) l a))
  | [], l, _ => ⟨fun _ a x b e => (by cases a <;> cases e), fun _ => rfl⟩
  | i :: o, l, h => by
    have hi := h i List.mem_cons_self
    have ei : rs[i]? = some rs[i] := List.getElem?_eq_getElem hi
    have ht := fun j m => h j (List.mem_cons_of_mem _ m)
    rw [ansB_cons ei]
    have pe := put_at ei
    have le := lotI_at ei
    generalize rs[i] = r at pe le
    cases hg : r.g with
    | false =>
      rw [hg] at pe
      have pe : isPutAt rs i = true := pe
      rw [if_pos rfl, ans_iff ht]
      constructor
      · intro f a x b e
        cases a with
        | nil =>
          cases e
          exact .inl pe
        | cons y a =>
          cases e
          have := f a x b rfl
          rw [OM.lastP_cons, pe, if_pos rfl]
          exact this
      · intro f a x b e
        subst e
        have := f (i :: a) x b rfl
        rw [OM.lastP_cons, pe, if_pos rfl] at this
        exact this
    | true =>
      rw [hg] at pe
      have pe : isPutAt rs i = false := pe
      have le : lotI rs i = r.t := by
        rw [le]
        unfold lotOf
        rw [if_pos hg]
      rw [if_neg (by decide), Bool.and_eq_true, decide_eq_true_iff, ans_iff ht]
      constructor
      · rintro ⟨f0, f⟩ a x b e
        cases a with
        | nil =>
          cases e
          exact .inr (le.trans f0)
        | cons y a =>
          cases e
          have := f a x b rfl
          rw [OM.lastP_cons, pe, if_neg (by decide)]
          exact this
      · intro f
        refine ⟨?_, fun a x b e => ?_⟩
        · rcases f [] i o rfl with z | z
          · rw [pe] at z
            cases z
          · exact le.symm.trans z
        · subst e
          have := f (i :: a) x b rfl
          rw [OM.lastP_cons, pe, if_neg (by decide)] at this
          exact this
def tooL (r : Row) (t : Int) : Bool := match r.e with
  | none => false
  | some e => decide (e < t)
theorem lateB_cons' {t : Int} {i : Nat} {o : List Nat} {r : Row} (h : rs[i]? = some r) : lateB rs t (i :: o) = if tooL r t = true then false else lateB rs (max2 t r.b) o := lateB_cons h
theorem late_iff : ∀ {o : List Nat} {t : Int}, (∀ i ∈ o, i < rs.length) → (lateB rs t o = true ↔ (∀ x ∈ o, ∀ e, eI rs x = some e → t ≤ e) ∧ o.Pairwise fun y x => aI rs x y = false)
  | [], t, _ => ⟨fun _ => ⟨fun x m => (nomatch m), .nil⟩, fun _ => rfl⟩
  | i :: o, t, h => by
    have hi := h i List.mem_cons_self
    have ei : rs[i]? = some rs[i] := List.getElem?_eq_getElem hi
    have ht := fun j m => h j (List.mem_cons_of_mem _ m)
    rw [lateB_cons' ei]
    have ee := eI_at ei
    have eb := bI_at ei
    generalize rs[i] = r at ee eb
    have c : (tooL r t = true) ↔ ¬ ∀ e, eI rs i = some e → t ≤ e := by
      rw [ee]
      unfold tooL
      cases r.e with
      | none => exact ⟨fun z => (nomatch z), fun z => absurd (fun e y => (nomatch y)) z⟩
      | some e =>
        show decide (e < t) = true ↔ _
        rw [decide_eq_true_iff]
        constructor
        · intro l z
          have := z e rfl
          omega
        · intro z
          by_cases y : e < t
          · exact y
          · exact absurd (fun e' h => by cases h; omega) z
    have ac : ∀ x, aI rs x i = false ↔ ∀ e, eI rs x = some e → r.b ≤ e := fun x => by
      unfold aI
      rw [eb]
      cases eI rs x with
      | none => exact ⟨fun _ e z => (nomatch z), fun _ => rfl⟩
      | some e =>
        show decide (e < r.b) = false ↔ _
        rw [decide_eq_false_iff_not]
        exact ⟨fun z e' h => by cases h; omega, fun z l => by have := z e rfl; omega⟩
    by_cases q : tooL r t = true
    · rw [if_pos q]
      exact ⟨fun z => (nomatch z), fun ⟨z, _⟩ => absurd (z i List.mem_cons_self) (c.mp q)⟩
    · rw [if_neg q, late_iff ht, List.pairwise_cons]
      have q : ∀ e, eI rs i = some e → t ≤ e := Classical.byContradiction fun z => q (c.mpr z)
      constructor
      · rintro ⟨f, g⟩
        refine ⟨fun x m e he => ?_, fun x m => (ac x).mpr fun e he => ?_, g⟩
        · rcases List.mem_cons.mp m with rfl | m
          · exact q e he
          · have := f x m e he
            unfold max2 at this
            split at this <;> omega
        · have := f x m e he
          unfold max2 at this
          split at this <;> omega
      · rintro ⟨f, g, k⟩
        refine ⟨fun x m e he => ?_, k⟩
        have a := f x (List.mem_cons_of_mem _ m) e he
        have b := (ac x).mp (g x m) e he
        unfold max2
        split <;> omega
theorem full_iff (ok : ∀ r ∈ rs, r.Ok) (nb : firstBad rs = none) {o : List Nat} (pm : o.Perm (partsOf rs)) : (ansB rs none o && alongB rs none o) = true ↔ OM.Full (tmOf rs ok nb).toHst o := by
  have lt : ∀ i ∈ o, i < rs.length := fun i m => by
    obtain ⟨r, er⟩ := part_row (pm.mem_iff.mp m)
    exact (List.getElem?_eq_some_iff.mp er).1
  have nd : o.Nodup := pm.nodup_iff.mpr (by unfold partsOf; exact List.Pairwise.filter _ List.nodup_range)
  rw [Bool.and_eq_true, ans_iff lt, ← late_none ok lt, late_iff lt]
  constructor
  · rintro ⟨f, _, g⟩
    refine ⟨⟨nd, fun i m => pm.mem_iff.mp m, fun a x b e => ⟨fun i mi na ne => ?_, f a x b e⟩⟩, pm.length_eq⟩
    have mo : i ∈ o := pm.mem_iff.mpr mi
    subst e
    rcases List.mem_append.mp mo with z | z
    · exact absurd z na
    · rcases List.mem_cons.mp z with z | z
      · exact absurd z ne
      · exact (List.pairwise_cons.mp (List.pairwise_append.mp g).2.1).1 i z
  · rintro ⟨⟨_, sub, step⟩, _⟩
    refine ⟨fun a x b e => (step a x b e).2, fun x m e he => ?_, ?_⟩
    · have hx := lt x m
      have ex : rs[x]? = some rs[x] := List.getElem?_eq_getElem hx
      rw [eI_at ex] at he
      have k := ok _ (List.getElem_mem hx)
      have := k.eb e he
      have := k.b0
      omega
    · have key : ∀ b a, o = a ++ b → b.Pairwise fun y x => aI rs x y = false := by
        intro b
        induction b with
        | nil => intro a _; exact .nil
        | cons x b ih =>
          intro a e
          rw [List.pairwise_cons]
          refine ⟨fun i m => ?_, ih (a ++ [x]) (by rw [List.append_assoc]; exact e)⟩
          have mo : i ∈ o := by rw [e]; exact List.mem_append_right _ (List.mem_cons_of_mem _ m)
          have nd' := nd
          rw [e, List.nodup_append] at nd'
          obtain ⟨_, nb', dj⟩ := nd'
          refine (step a x b e).1 i (sub i mo) (fun z => dj i z i (List.mem_cons_of_mem _ m) rfl) fun z => ?_
          subst z
          exact (List.nodup_cons.mp nb').1 m
      exact key o [] rfl
theorem partsIn_of {o : List Nat} (pm : o.Perm (partsOf rs)) : partsIn rs (.tuple ((natsI o).map .int)) = some o := by
  unfold partsIn
  dsimp only
  rw [allInts_ints]
  dsimp only
  have e : natsI (partsOf rs) = PySem.W.sortI (natsI o) := PySem.W.eq_sortI ((pm.map _).symm) (by
    unfold natsI
    rw [List.pairwise_map]
    unfold partsOf
    refine (List.Pairwise.filter _ List.pairwise_lt_range).imp fun h => ?_
    omega)
  rw [← e, decide_eq_true rfl, if_pos rfl]
  congr 1
  unfold natsI
  rw [List.map_map]
  exact (List.map_congr_left (g := id) fun x m => rfl).trans (List.map_id _)
theorem order_iff' (ok : ∀ r ∈ rs, r.Ok) (nb : firstBad rs = none) {o : List Nat} (pm : o.Perm (partsOf rs)) : orderB rs (.tuple ((natsI o).map .int)) = true ↔ OM.Full (tmOf rs ok nb).toHst o := by
  unfold orderB
  rw [partsIn_of pm]
  exact full_iff ok nb pm
theorem full_order (ok : ∀ r ∈ rs, r.Ok) (nb : firstBad rs = none) {o : List Nat} (f : OM.Full (tmOf rs ok nb).toHst o) : orderB rs (.tuple ((natsI o).map .int)) = true := (order_iff' ok nb (OM.full_perm f)).mpr f
theorem none_order (ok : ∀ r ∈ rs, r.Ok) (nb : firstBad rs = none) (h : ordersOf rs = []) : orderB rs (.tuple ((natsI (partsOf rs)).map .int)) = false := by
  cases c : orderB rs (.tuple ((natsI (partsOf rs)).map .int)) with
  | false => rfl
  | true =>
    have := (mem_orders ok nb).mpr ((order_iff' ok nb (List.Perm.refl _)).mp c)
    rw [h] at this
    cases this
theorem len_order {d : PyData} (h : lenD d ≠ (partsOf rs).length) : orderB rs d = false := by
  unfold orderB
  cases hP : partsIn rs d with
  | none => rfl
  | some o =>
    obtain ⟨e, pm⟩ := partsIn_perm hP
    subst e
    refine absurd ?_ h
    show ((natsI o).map PyData.int).length = _
    unfold natsI
    rw [List.length_map, List.length_map]
    exact pm.length_eq
end
end K37
end

section
set_option Elab.async false
set_option linter.all false
set_option maxRecDepth 100000
set_option maxHeartbeats 4000000
/-! a great history -/
namespace K37
open PySem PySem.Spec PyProof.Rows L2 KZ
abbrev sGR : Stmt := top 55
structure CalG (P : Program) (w : World) (K : PySem.W.Frag) (mg : Str → Option Value) (base : Heap) (x : Str) (n : Nat) (ps : List Str) (sp : Sp) : Prop where
  ex : ∃ f fd, mg x = some (.ref f) ∧ FnG P w K mg base CX0 n f fd ps sp ∧ PySem.W.keepIn K (.ref f) = true ∧ Binds K fd ps []
def spGR : Sp := fun vs H Q _ => ∃ (p c : Addr) (cells : List Int) (n : Nat), vs = [.ref p] ∧ PenAt H p c cells n ∧ n ≤ 2000 ∧ ∀ H', Q (.bl true) H'
theorem as_kept {C p c : Addr} {cells : List Int} {n : Nat} {H H' : Hp} {ms : List Addr} {rs : List Row} (pn : PenAt H p c cells n) (k : Kept p H H') (h : AsksAt C H ms rs) : AsksAt C H' ms rs := by
  obtain ⟨x, g, hp, _⟩ := pn.ex
  exact ⟨h.1, fun i q r e1 e2 => by
    obtain ⟨dx, hx⟩ := h.2 i q r e1 e2
    exact ⟨dx, k _ _ (fun z => by rw [z, hp] at hx; cases hx) hx⟩⟩
section
variable {P : Program} {w : World} {K : PySem.W.Frag} {mg : Str → Option Value} {base : Heap} {C CO CQ : Addr}
theorem scGR : FnScope ["well", "rows", "order", "made", "row", "turn", "at", "spot", "low", "high", "bent"] ["well"] (defScope sGR) := ⟨rfl, rfl, rfl, by decide +kernel, rfl, by decide +kernel, by decide +kernel⟩
theorem ok_gr (hmd : ModsD base) {f : Addr} {fd : FuncData} (F : Fun K "_law_great_right" "_law_great_right" sGR f fd) (T : B1 mg) (AO : OrdC K mg CO) (mko : MkO P w K mg base CO) (sh : ShowK P w K mg base C CO CQ) (led : Cal P w K mg base "_law_led" 3 ["well", "many", "spread"] spLed)
    (draw : Cal P w K mg base "_law_draw" 1 ["well", "many"] spDraw) (one : Cal P w K mg base "_law_one" 2 ["well", "some"] spOne) (made : Cal P w K mg base "_law_made" 10 ["row"] (spMade C)) (iso : Cal P w K mg base "_law_is_order" 2 ["rows", "indexes"] (spLIO K)) (lq : CalG P w K mg base "_law_led_quarrels_right" 12 ["well", "rows"] spLQ) :
    FnG P w K mg base CX0 13 f fd ["well"] spGR := by
  obtain ⟨fOi, dOi, MO, GOi, bOi⟩ := mko.ex
  obtain ⟨fSh, dSh, gSh, GSh, kSh, bSh, kbSh⟩ := sh.ex
  obtain ⟨fLd, dLd, gLd, GLd, kLd, bLd⟩ := led.ex
  obtain ⟨fD, dD, gD, GD, kD, bD⟩ := draw.ex
  obtain ⟨fO, dO, gO_, GO, kO, bO⟩ := one.ex
  obtain ⟨fM, dM, gM, GM, kM, bM⟩ := made.ex
  obtain ⟨fIO, dIO, gIO, GIO, kIO, bIO⟩ := iso.ex
  obtain ⟨fLQ, dLQ, gLQ, GLQ, kLQ, bLQ⟩ := lq.ex
  refine okG F scGR (fun vs H Q E h => ?_) (fun cdv A' outer s0 H vs Q E hgd hr h => ?_)
  · obtain ⟨p, c, cells, n, rfl, _⟩ := h
    rfl
  · obtain ⟨p, c, cells, n, rfl, pen, hn, q⟩ := h
    have hr12 : Room 12 _ := hr
    have hr10 : Room 10 _ := hr.mono (by decide)
    have hr4 : Room 4 _ := hr.mono (by decide)
    have hr3 : Room 3 _ := hr.mono (by decide)
    have hr2 : Room 2 _ := hr.mono (by decide)
    have hr1 : Room 1 _ := hr.mono (by decide)
    refine ⟨_, (pss_cons (ps_asg (pe_call GLd hr3 (by rfl) gLd kLd bLd .nil pass0 (pa_cons (pv 0) (pa_cons (pe_call GO hr2 (by rfl) gO_ kO bO .nil pass0 (pa_cons (pv 0) (pa_cons (pe_lst (pa_cons pe_int (pa_cons pe_int (pa_cons pe_int (pa_cons pe_int pa_nil))))) pa_nil))) (pa_cons (pe_call GO hr2 (by rfl) gO_ kO bO .nil pass0 (pa_cons (pv 0) (pa_cons (pe_lst (pa_cons pe_int (pa_cons pe_int (pa_cons pe_int pa_nil)))) pa_nil))) pa_nil)))) (pg_tup rfl (pgs_cons (pg_name (i := 1) scGR.nd rfl (Or.inl rfl)) (pgs_cons (pg_name (i := 2) scGR.nd rfl (Or.inl rfl)) pgs_nil))))
(pss_cons (ps_setLc (i := 3) (own := [("row", 4)]) (g := gName 4) (tt := tYes) (by rfl) scGR.nd rfl rfl (sw_true rfl rfl rfl (by decide +kernel)) (pi_list (pv 1)) (blkOk_by (own := [("row", 4)]) (N := ["well", "rows", "order", "made", "row", "turn", "at", "spot", "low", "high", "bent"]) (sc := defScope sGR) (by decide +kernel)) (fun _ _ _ _ _ => pg_name (i := 4) scGR.nd rfl (Or.inl rfl)) (fun _ _ _ _ _ => pts_nil) (fun _ _ _ _ _ => pe_call GM hr10 (by rfl) gM kM bM .nil pass0 (pa_cons (pv 4) pa_nil)))
(pss_cons (ps_if (PW.pt (pw_or (pt_cmpR op_notBl (pe_call GSh hr10 (by rfl) gSh kSh bSh .nil pass0 (pa_cons (pv 3) (pa_cons (pe_make MO GOi hr4 (by rfl) AO.mg bOi .nil pass0 (pa_cons (pv 2) pa_nil)) pa_nil))) pe_bl (nomark _)) (pw_or1 (pt_cmpR op_notBl (pe_call GSh hr10 (by rfl) gSh kSh bSh .nil pass0 (pa_cons (pv 3) (pa_cons (pe_make MO GOi hr4 (by rfl) AO.mg bOi .nil pass0 (pa_cons (pe_slice (sl_tupAK K) (pv 2) (po_some pe_int) po_none) pa_nil)) pa_nil))) pe_bl (nomark _)))))
(pss_one (ps_ret pe_bl))
pss_nil)
(pss_cons (ps_for PassesOwn.never rfl (pi_range1 (by rfl) T.range (pa_cons pe_int pa_nil)) (pg_name (i := 5) scGR.nd rfl (Or.inl rfl))
(pss_cons (ps_set (i := 6) scGR.nd rfl (Or.inl rfl) (pe_call GD hr1 (by rfl) gD kD bD .nil pass0 (pa_cons (pv 0) (pa_cons (pe_op op_sub (pe_callB call_len (by rfl) T.len PySem.boot_len (pa_cons (pv 2) pa_nil)) pe_int) pa_nil))))
(pss_cons (ps_set (i := 7) scGR.nd rfl (Or.inl rfl) (pe_ifExp (pt_cmpR op_lt (pv 5) pe_int (nomark _)) (pe_op op_add (pv 6) pe_int) (pe_call GD hr1 (by rfl) gD kD bD .nil pass0 (pa_cons (pv 0) (pa_cons (pe_callB call_len (by rfl) T.len PySem.boot_len (pa_cons (pv 2) pa_nil)) pa_nil)))))
(pss_cons (ps_par (i := 8) (j := 9) (by rfl) scGR.nd rfl rfl (by decide) rfl rfl (pa_cons (pe_callB (call_min2 rfl) (by rfl) T.min (by decide +kernel) (pa_cons (pe_callTy call_int1 (by rfl) T.int (by decide +kernel) (pa_cons (pv 6) pa_nil)) (pa_cons (pe_callTy call_int1 (by rfl) T.int (by decide +kernel) (pa_cons (pv 7) pa_nil)) pa_nil))) (pa_cons (pe_callB (call_max2 rfl) (by rfl) T.max (by decide +kernel) (pa_cons (pe_callTy call_int1 (by rfl) T.int (by decide +kernel) (pa_cons (pv 6) pa_nil)) (pa_cons (pe_callTy call_int1 (by rfl) T.int (by decide +kernel) (pa_cons (pv 7) pa_nil)) pa_nil))) pa_nil)) (by rfl))
(pss_cons (ps_set (i := 10) scGR.nd rfl (Or.inl rfl) (pe_ifExp (pt_cmpR op_eq (pv 8) (pv 9) (nomark _)) (pe_slice (sl_tupAK K) (pv 2) po_none (po_some (pv 9))) (pe_op (op_catAK K) (pe_op (op_catAK K) (pe_op (op_catAK K) (pe_op (op_catAK K) (pe_slice (sl_tupAK K) (pv 2) po_none (po_some (pv 8))) (pe_tup (pa_cons (pe_ix (ix_seqK K) (pv 2) (pv 9) (fun _ _ => rfl)) pa_nil))) (pe_slice (sl_tupAK K) (pv 2) (po_some (pe_op op_add (pv 8) pe_int)) (po_some (pv 9)))) (pe_tup (pa_cons (pe_ix (ix_seqK K) (pv 2) (pv 8) (fun _ _ => rfl)) pa_nil))) (pe_slice (sl_tupAK K) (pv 2) (po_some (pe_op op_add (pv 9) pe_int)) po_none))))
(pss_one (ps_if (pt_cmpR op_ne (pe_callB (call_reprK K hgd hr.units hmd) (by rfl) T.repr (by decide +kernel) (pa_cons (pe_call GSh hr10 (by rfl) gSh kSh bSh .nil pass0 (pa_cons (pv 3) (pa_cons (pe_make MO GOi hr4 (by rfl) AO.mg bOi .nil pass0 (pa_cons (pv 10) pa_nil)) pa_nil))) pa_nil)) (pe_callB (call_reprK K hgd hr.units hmd) (by rfl) T.repr (by decide +kernel) (pa_cons (pe_call GIO hr2 (by rfl) gIO kIO bIO .nil pass0 (pa_cons (pv 1) (pa_cons (pv 10) pa_nil))) pa_nil)) (nomark _))
(pss_one (ps_ret pe_bl))
pss_nil)))))))
(pss_one (ps_ret (pe_callG GLQ hgd hr12 (by rfl) gLQ kLQ bLQ .nil pass0 (pa_cons (pv 0) (pa_cons (pv 1) pa_nil))))))))), ?_⟩
    refine ⟨.ref p, rfl, .ref p, rfl, by show 4 ≤ sizeLine; decide, fun LA1 hLA1 => ?_⟩
    have z1 := same_new (o := .lst [.int 1000, .int 400, .int 700, .int 1000]) hLA1
    refine ⟨p, c, LA1, cells, _, _, rfl, pen.mono z1 (Nat.le_refl _), by omega, upd_same, (pen.nn hLA1).1, by show 0 < 4; decide, by show 4 ≤ 100; decide, fun j1 x1 H2 ex1 pen2 kp2 => ⟨.ref p, rfl, by show 3 ≤ sizeLine; decide, fun LB1 hLB1 => ?_⟩⟩
    have z2 := same_new (o := .lst [.int 1, .int 8, .int 60]) hLB1
    refine ⟨p, c, LB1, cells, _, _, rfl, pen2.mono z2 (Nat.le_refl _), by omega, upd_same, (pen2.nn hLB1).1, by show 0 < 3; decide, by show 3 ≤ 100; decide, fun j2 x2 H3 ex2 pen3 kp3 => ?_⟩
    obtain ⟨m, rfl, m6, m1000⟩ : ∃ m : Nat, x1 = .int m ∧ 400 ≤ m ∧ m ≤ 1000 := by
      rcases j1 with _ | _ | _ | _ | j1
      · exact ⟨1000, (Option.some.inj ex1).symm, by decide, by decide⟩
      · exact ⟨400, (Option.some.inj ex1).symm, by decide, by decide⟩
      · exact ⟨700, (Option.some.inj ex1).symm, by decide, by decide⟩
      · exact ⟨1000, (Option.some.inj ex1).symm, by decide, by decide⟩
      · cases ex1
    obtain ⟨sd, rfl, sd1, sd2⟩ : ∃ sd : Int, x2 = .int sd ∧ 1 ≤ sd ∧ sd ≤ 1000 := by
      rcases j2 with _ | _ | _ | j2
      · exact ⟨1, (Option.some.inj ex2).symm, by decide, by decide⟩
      · exact ⟨8, (Option.some.inj ex2).symm, by decide, by decide⟩
      · exact ⟨60, (Option.some.inj ex2).symm, by decide, by decide⟩
      · cases ex2
    dsimp only [tNil]
    clear z1 z2 hLA1 hLB1 ex1 ex2 pen2 pen kp2 kp3
    refine ⟨p, c, cells, _, m, sd, rfl, pen3, by omega, by omega, m1000, sd1, sd2, fun t a o rs pl H4 na pen4 kp4 ht rows ho ld lm => ⟨t, _, rfl, SqT.of ht, rfl, _, _, rfl, _, _, rfl, rfl, ?_⟩⟩
    have hl : rs.length ≤ 1000 := by omega
    have ok := ld.ok
    have nb := ld.nb
    have hs : ∀ r ∈ rs, r.c.length ≤ 1000 := fun r mr => by
      obtain ⟨k, hk, rfl⟩ := List.mem_iff_getElem.mp mr
      have := (ld.row (List.getElem?_eq_getElem hk)).1
      rw [this]
      decide +kernel
    have en : ∀ r ∈ rs, r.e ≠ none := fun r mr => by
      obtain ⟨k, hk, rfl⟩ := List.mem_iff_getElem.mp mr
      obtain ⟨_, _, ⟨e, he, _⟩, _⟩ := ld.row (List.getElem?_eq_getElem hk)
      rw [he]
      exact fun z => nomatch z
    have full : orderB rs (.tuple ((natsI pl).map .int)) = true := full_order ok nb ld.full
    have pln : pl.length = m := by rw [ld.len, lm]
    have plr : ∀ k ∈ pl, k < rs.length := ld.lt
    have pp : (partsOf rs).length = m := by
      have := (OM.full_perm ld.full).length_eq
      rw [pln] at this
      exact this.symm
    clear ld kp4 ht
    obtain ⟨ps, ha, _⟩ := id rows
    refine ⟨.ref a, rfl, a, rfl, ⟨_, SqL.of ha⟩, fun M hM0 => made_lc rows ok hl hs hM0 (fun _ => rfl) (fun _ => rfl) fun ms H5 am hM s5 => nx_go ?_⟩
    have nM := (pen4.nn hM0).1
    have rows5 := rows.mono s5
    have pen5 := pen4.mono s5 (Nat.le_refl _)
    have so : SqT K H5 o (nats pl) := SqT.of (s5 _ _ ho)
    have okn : ∀ x ∈ nats pl, okV x = true := fun x m => by
      unfold nats at m
      obtain ⟨y, _, rfl⟩ := List.mem_map.mp m
      rfl
    have scn : (nats pl).map scX = (natsI pl).map .int := by
      rw [nats_ints, List.map_map]
      rfl
    have nl : (nats pl).length = m := by unfold nats; rw [List.length_map]; exact pln
    have bo : ∀ {H' : Hp}, SqT K H' o (nats pl) → Bent K H' (.ref o) (.tuple ((natsI pl).map .int)) := fun h => by
      rw [← scn]
      exact Bent.tup h okn (by omega)
    refine ⟨_, rfl, _, rfl, fun x1 d1 hx1 hd1 ne1 => ord_go hx1 hd1 ne1 (bo so).cp fun H6 s6 od1 => ?_⟩
    refine ⟨M, rs, .ref x1, true, rfl, ⟨ms, .inl (SqL.of (s6 _ _ hM)), ask_mono s6 am⟩, hl, ok, nb, .inl ⟨x1, _, rfl, od1, (bo so).ln, full.symm⟩, fun H7 s7 => ⟨true, true, rfl, rfl, false, rfl, iteF' ?_⟩⟩
    have s57 := s6.trans s7
    refine ⟨_, rfl, _, rfl, 1, rfl, np_go (slA_go (sqT_mono s57 so) fun t1 H8 q1 s8 => ?_)⟩
    have cl : (cutV (nats pl) (some 1) none).length ≤ (nats pl).length - 1 := cut_hi (nats pl) (z := 1) 1 rfl
    have b1 : Bent K H8 (.ref t1) (.tuple ((cutV (nats pl) (some 1) none).map scX)) := Bent.tup q1 (fun x m => okn x (cutV_mem m)) (by omega)
    have fb : orderB rs (.tuple ((cutV (nats pl) (some 1) none).map scX)) = false := len_order (by
      show ((cutV (nats pl) (some 1) none).map scX).length ≠ _
      rw [List.length_map, pp]
      omega)
    refine fun x2 d2 hx2 hd2 ne2 => ord_go hx2 hd2 ne2 b1.cp fun H9 s9 od2 => ?_
    have s59 := s57.trans (s8.trans s9)
    refine ⟨M, rs, .ref x2, false, rfl, ⟨ms, .inl (SqL.of (s59 _ _ hM)), ask_mono s59 am⟩, hl, ok, nb, .inl ⟨x2, _, rfl, od2, b1.ln, fb.symm⟩, fun H10 s10 => ⟨false, false, rfl, rfl, false, rfl, iteF' ?_⟩⟩
    have sA := s59.trans s10
    have pen10 := pen5.mono sA (Nat.le_refl _)
    refine ⟨4, rfl, by decide, by decide, for_range (n := 4) (fun i σ H' => ∃ x5 x6 x7 x8 x9 x10, σ = [some (.ref p), some (.ref a), some (.ref o), some (.ref M), none, x5, x6, x7, x8, x9, x10] ∧ RowsAt H' a rs ∧ (H' M = some (.lst (ms.map V.ref)) ∧ AsksAt C H' ms rs) ∧ SqT K H' o (nats pl) ∧ PenAt H' p c cells (n + 2 + 5 * m + 2 * i)) ⟨_, _, _, _, _, _, rfl, rows5.mono sA, ⟨sA _ _ hM, ask_mono sA am⟩, sqT_mono sA so, pen10.more (by omega)⟩ ?_ ?_⟩
    · rintro i σ H' hi ⟨x5, x6, x7, x8, x9, x10, rfl, rw', ⟨hM', am'⟩, so', pn'⟩
      show gName 5 (V.int (0 + (i : Int))) _ _ _
      rw [Int.zero_add]
      refine nx_go ?_
      refine ⟨_, rfl, _, rfl, .ref o, _, rfl, Sq.len (.inr so'), _, 1, rfl, rfl, p, c, cells, _, _, rfl, pn', by omega, by omega, by omega, fun at_ H1 a0 a1 pn1 k1 => nx_go ?_⟩
      have so1 := sqT_kept pn' k1 so'
      have rw1 := rows_kept pn' k1 rw'
      have am1 := as_kept pn' k1 am'
      have hM1 := k1 _ _ nM hM'
      obtain ⟨aN, rfl⟩ : ∃ i : Nat, at_ = i := ⟨at_.toNat, by omega⟩
      dsimp only
      refine asg_of (fun v H' => ∃ sp : Nat, v = .int (sp : Nat) ∧ sp < m ∧ RowsAt H' a rs ∧ (H' M = some (.lst (ms.map V.ref)) ∧ AsksAt C H' ms rs) ∧ SqT K H' o (nats pl) ∧ PenAt H' p c cells (n + 2 + 5 * m + 2 * i + 2)) (fun Qz z => ?_) (fun v H2 ⟨sp, ev, spl, rw2, ⟨hM2, am2⟩, so2, pn2⟩ => nx_go ?_)
      · refine ⟨_, rfl, _, 2, rfl, rfl, decide ((i : Int) < 2), rfl, ?_⟩
        cases decide ((i : Int) < 2) with
        | true => exact iteT' ⟨_, rfl, _, 1, rfl, rfl, z _ _ ⟨aN + 1, rfl, by omega, rw1, ⟨hM1, am1⟩, so1, pn1.more (by omega)⟩⟩
        | false =>
          refine iteF' ⟨_, rfl, _, rfl, .ref o, _, rfl, Sq.len (.inr so1), p, c, cells, _, _, rfl, pn1, by omega, by omega, by omega, fun sp H2 b0 b1' pn2 k2 => ?_⟩
          obtain ⟨sN, rfl⟩ : ∃ i : Nat, sp = i := ⟨sp.toNat, by omega⟩
          exact z _ _ ⟨sN, rfl, by omega, rows_kept pn1 k2 rw1, ⟨k2 _ _ nM hM1, as_kept pn1 k2 am1⟩, sqT_kept pn1 k2 so1, pn2⟩
      · subst ev
        clear so1 rw1 am1 hM1 rw' hM' am' so' pn' k1 pn1
        obtain ⟨lo, hlo⟩ : ∃ lo : Nat, min2 (aN : Int) (sp : Int) = lo ∧ lo < m := by
          unfold min2
          split
          · exact ⟨sp, rfl, spl⟩
          · exact ⟨aN, rfl, by omega⟩
        obtain ⟨hi', hhi⟩ : ∃ hi : Nat, max2 (aN : Int) (sp : Int) = hi ∧ hi < m := by
          unfold max2
          split
          · exact ⟨sp, rfl, spl⟩
          · exact ⟨aN, rfl, by omega⟩
        have hlh : lo ≤ hi' := by
          have h1 := hlo.1
          have h2 := hhi.1
          unfold min2 at h1
          unfold max2 at h2
          split at h1 <;> split at h2 <;> omega
        refine ⟨_, rfl, .inl ⟨_, rfl, _, rfl, .inl ⟨_, rfl, _, _, rfl, _, rfl, .inl ⟨_, rfl, _, rfl, .inl ⟨_, rfl, _, _, rfl, _, _, rfl, ?_⟩⟩⟩⟩⟩
        rw [show (if (sp : Int) < (aN : Int) then (sp : Int) else (aN : Int)) = (lo : Int) from hlo.1, show (if (sp : Int) > (aN : Int) then (sp : Int) else (aN : Int)) = (hi' : Int) from hhi.1]
        dsimp only
        refine asg_of (fun v H' => ∃ d, Bent K H' v d ∧ Same H2 H') (fun Qz z => ?_) (fun v H3 ⟨d, b3, s3⟩ => nx_go ?_)
        · refine ⟨_, rfl, _, rfl, rfl, decide (lo = hi'), ?_, ?_⟩
          · exact congrArg V.bl (decide_eq_decide.mpr ⟨fun e => Int.ofNat.inj (V.int.inj e), fun e => by rw [e]⟩)
          cases decide (lo = hi') with
          | true =>
            refine iteT' ⟨_, rfl, _, rfl, _, rfl, slA_go so2 fun t H3 q3 s3 => z _ _ ⟨_, Bent.tup q3 (fun x m => okn x (cutV_mem m)) (Nat.le_trans (cutV_length _ _ _) (by omega)), s3⟩⟩
          | false =>
            have okc : ∀ {lo hi : Option Int}, ∀ x ∈ cutV (nats pl) lo hi, okV x = true := fun x m => okn x (cutV_mem m)
            have oka : ∀ {xs ys : List V}, (∀ x ∈ xs, okV x = true) → (∀ x ∈ ys, okV x = true) → ∀ x ∈ xs ++ ys, okV x = true := fun h1 h2 x m => (List.mem_append.mp m).elim (h1 x) (h2 x)
            have one1 : ∀ {v : V}, okV v = true → ∀ x ∈ [v], okV x = true := fun h x m => by rw [List.mem_singleton.mp m]; exact h
            have at_v : ∀ {k : Nat}, k < m → ∃ i : Int, atI (nats pl) (k : Int) = some (.int i) := fun {k} hk => by
              refine ⟨((pl[k]'(by omega) : Nat) : Int), at_nat ?_⟩
              unfold nats
              rw [List.getElem?_map, List.getElem?_eq_getElem (show k < pl.length by omega)]
              rfl
            obtain ⟨vh, ah⟩ := at_v hhi.2
            obtain ⟨vl, al⟩ := at_v hlo.2
            have c1 := cut_lo (nats pl) lo
            have c3 : (cutV (nats pl) (some ((lo : Int) + 1)) (some (hi' : Int))).length ≤ hi' - (lo + 1) := by
              unfold cutV
              rw [List.length_take, List.length_drop, show ((lo : Int) + 1) = ((lo + 1 : Nat) : Int) by omega, HT.sIx_nat, HT.sIx_nat]
              omega
            have c5 := cut_hi (nats pl) (z := (hi' : Int) + 1) (hi' + 1) (by omega)
            refine iteF' ⟨_, rfl, _, rfl, _, rfl, slA_go so2 fun t1 H3 q1 s3 => ?_⟩
            refine ⟨_, rfl, _, rfl, Sq.ix (.inr (sqT_mono s3 so2)) ah ⟨by show 1 ≤ sizeLine; decide, fun t2 ht2 => ?_⟩⟩
            have s4 := same_new (o := .tup [.int vh]) ht2
            refine catA_go (sqT_mono s4 q1) (SqT.of upd_same) (by show _ + 1 ≤ 4000; omega) fun t3 H5 q3 s5 => ?_
            have sB := s3.trans (s4.trans s5)
            refine ⟨_, rfl, _, rfl, _, 1, rfl, rfl, _, rfl, _, rfl, _, rfl, slA_go (sqT_mono sB so2) fun t4 H6 q4 s6 => ?_⟩
            refine catA_go (sqT_mono s6 q3) q4 (by rw [List.length_append]; show _ + 1 + _ ≤ 4000; omega) fun t5 H7 q5 s7 => ?_
            have sC := sB.trans (s6.trans s7)
            refine ⟨_, rfl, _, rfl, Sq.ix (.inr (sqT_mono sC so2)) al ⟨by show 1 ≤ sizeLine; decide, fun t6 ht6 => ?_⟩⟩
            have s8 := same_new (o := .tup [.int vl]) ht6
            refine catA_go (sqT_mono s8 q5) (SqT.of upd_same) (by rw [List.length_append, List.length_append]; show _ + 1 + _ + 1 ≤ 4000; omega) fun t7 H9 q7 s9 => ?_
            have sD := sC.trans (s8.trans s9)
            refine ⟨_, rfl, _, rfl, _, 1, rfl, rfl, _, rfl, np_go (slA_go (sqT_mono sD so2) fun t8 H10 q8 s10 => ?_)⟩
            refine catA_go (sqT_mono s10 q7) q8 (by rw [List.length_append, List.length_append, List.length_append]; show _ + 1 + _ + 1 + _ ≤ 4000; omega) fun t9 H11 q9 s11 => z _ _ ⟨_, Bent.tup q9 (oka (oka (oka (oka okc (one1 rfl)) okc) (one1 rfl)) okc) ?_, sD.trans (s10.trans s11)⟩
            rw [List.length_append, List.length_append, List.length_append, List.length_append]
            show _ + 1 + _ + 1 + _ ≤ 2000
            omega
        · obtain ⟨c1, c2, c3⟩ := bool_tell' (orderB rs d)
          have rw3 := rw2.mono s3
          refine ⟨_, rfl, _, rfl, fun x dx hx hdx ne => ord_go hx hdx ne b3.cp fun H9 s9 od => ?_⟩
          have sB := s3.trans s9
          refine ⟨M, rs, .ref x, orderB rs d, rfl, ⟨ms, .inl (SqL.of (sB _ _ hM2)), ask_mono sB am2⟩, hl, ok, nb, .inl ⟨x, d, rfl, od, b3.ln, rfl⟩, fun H10 s10 => ?_⟩
          have sC := s9.trans s10
          refine ⟨.bl (orderB rs d), .bool (orderB rs d), rfl, .bl _, c1, c2, c3, _, rfl, _, rfl, a, rs, v, d, rfl, rw3.mono sC, hl, ok, nb, Dv.mono sC b3.cp.dv, b3.ln, b3.fl, fun H11 s11 => ?_⟩
          have sD := s3.trans (sC.trans s11)
          refine ⟨.bl (orderB rs d), .bool (orderB rs d), rfl, .bl _, c1, c2, c3, rfl, false, ne_self, iteF' ⟨_, _, _, _, _, _, rfl, rw2.mono sD, ⟨sD _ _ hM2, ask_mono sD am2⟩, sqT_mono sD so2, pn2.mono sD (by omega)⟩⟩
    · rintro σ H' ⟨x5, x6, x7, x8, x9, x10, rfl, rw', ⟨hM', am'⟩, so', pn'⟩
      exact ⟨_, rfl, _, rfl, p, c, a, cells, _, rs, rfl, pn', by omega, rw', by omega, hl, ok, en, hs, nb, fun H2 _ _ => q H2⟩
end
end K37
end

section
set_option Elab.async false
set_option linter.all false
set_option maxRecDepth 100000
set_option maxHeartbeats 4000000
/-! what is no history -/
namespace K37
open PySem PySem.Spec PyProof.Rows L2 KZ
section
variable {K : PySem.W.Frag} {C cB cT : Addr}
/-- what is no history -/
def BadH (K : PySem.W.Frag) (C : Addr) (v : V) (H : Hp) : Prop := NoSq K H v ∨ ∃ a xs, ∃ g : V → Bool, v = .ref a ∧ Sq K H a xs ∧ xs.length ≤ 2000 ∧ (∀ x ∈ xs, ∃ t, TyX K H x t ∧ PySem.W.kitOne K t (.ref C) = some (g x)) ∧ ∃ x ∈ xs, g x = false
theorem looked_bad {v : V} {H : Hp} {E : XK} {go : Addr → List Row → Prop} (h : BadH K C v H) (o : OutF cB [("part", .str "asks")] H E) : Looked K C cB cT v H E go := by
  rcases h with h | ⟨a, xs, g, h1, h2, h3, h4, h5⟩
  · exact .inl ⟨h, o⟩
  · exact .inr (.inl ⟨a, xs, g, h1, h2, h3, h4, h5, o⟩)
theorem badh_pair {H : Hp} {a AS : Addr} {y : V} {ty : Value} (hs : Sq K H a [.ref AS, y]) (tx : TyX K H (.ref AS) (.ref C)) (me : PySem.W.kitOne K (.ref C) (.ref C) = some true) (tyy : TyX K H y ty) (no : PySem.W.kitOne K ty (.ref C) = some false) (ne : V.ref AS ≠ y) : BadH K C (.ref a) H := by
  refine .inr ⟨a, _, fun v => decide (v ≠ y), rfl, hs, (show 2 ≤ 2000 by decide), fun x m => ?_, y, by simp, by simp⟩
  rcases List.mem_cons.mp m with rfl | m
  · exact ⟨_, tx, by rw [me]; exact congrArg some (decide_eq_true ne).symm⟩
  rcases List.mem_cons.mp m with rfl | m
  · exact ⟨_, tyy, by rw [no]; simp⟩
  · cases m
theorem badh_one {H : Hp} {a : Addr} {y : V} {ty : Value} (hs : Sq K H a [y]) (tyy : TyX K H y ty) (no : PySem.W.kitOne K ty (.ref C) = some false) : BadH K C (.ref a) H := by
  refine .inr ⟨a, _, fun v => false, rfl, hs, (show 1 ≤ 2000 by decide), fun x m => ?_, y, by simp, rfl⟩
  rcases List.mem_cons.mp m with rfl | m
  · exact ⟨_, tyy, no⟩
  · cases m
/-- the types that are no sequence -/
structure NoLT (K : PySem.W.Frag) (C : Addr) : Prop where
  ts : ∀ T ∈ ["NoneType", "bool", "int", "str", "dict"], PySem.W.kitOne K (.type T) (.type "list") = some false ∧ PySem.W.kitOne K (.type T) (.type "tuple") = some false
  c : PySem.W.kitOne K (.ref C) (.type "list") = some false ∧ PySem.W.kitOne K (.ref C) (.type "tuple") = some false
end
theorem row_ok' {c : Str} {g : Bool} {b : Int} {e t : Option Int} (hc : isName (.str c) = true) (b0 : 0 ≤ b) (he : ∀ x, e = some x → b < x) (ht : ∀ x, t = some x → g = true ∧ e ≠ none ∧ 0 ≤ x) : (⟨c, g, b, e, t⟩ : Row).Ok := ⟨hc, b0, he, ht⟩
theorem flat_rep {α : Type} (x : α) : ∀ n : Nat, (List.replicate n [x]).flatten = List.replicate n x
  | 0 => rfl
  | n + 1 => by
    rw [List.replicate_succ, List.flatten_cons, flat_rep x n, List.replicate_succ]
    rfl
theorem PenAt.ne_of {H : Hp} {p c a : Addr} {cells : List Int} {n : Nat} {o : HO} (h : PenAt H p c cells n) (e : H a = some o) (k : ∀ xs, o ≠ .lst xs) : a ≠ p := fun z => by
  obtain ⟨x, g, hp, _⟩ := h.ex
  rw [z, hp] at e
  exact k _ (Option.some.inj e).symm
def soR : Row := ⟨"a", false, 0, some 1, none⟩
def badR (t : Int) : Row := ⟨"b", true, 0, some 1, some t⟩
theorem soR_ok : soR.Ok := row_ok' (by decide +kernel) (by decide) (fun x z => by cases z; decide) (fun x z => nomatch z)
theorem badR_ok {t : Int} (h : 0 ≤ t) : (badR t).Ok := row_ok' (by decide +kernel) (by decide) (fun x z => by cases z; decide) (fun x z => ⟨rfl, (fun y => nomatch y), by cases z; exact h⟩)
end K37
end

section
set_option Elab.async false
set_option linter.all false
set_option maxRecDepth 100000
set_option maxHeartbeats 4000000
/-! what is refused -/
namespace K37
open PySem PySem.Spec PyProof.Rows L2 KZ
abbrev sRR : Stmt := top 56
/-- what is caught: one refused more -/
def cls3 (cB cT : Addr) : Nat → Addr
  | 1 => cT
  | _ => cB
def fs3 : Nat → List (Str × V)
  | 0 => [("part", .str "asks")]
  | 1 => [("most", .int 1000), ("what", .str "asks")]
  | _ => [("part", .int 1)]
def spRR : Sp := fun vs H Q _ => ∃ (p c : Addr) (cells : List Int) (n : Nat), vs = [.ref p] ∧ PenAt H p c cells n ∧ n ≤ 8000 ∧ ∀ H', PenAt H' p c cells (n + 2) → Kept p H H' → Q (.bl true) H'
structure RefF (K : PySem.W.Frag) (mg : Str → Option Value) (cO cB cT : Addr) : Prop where
  gOE : mg "OpenError" = some (.ref cO)
  gB : mg "BadAsk" = some (.ref cB)
  gT : mg "TooMany" = some (.ref cT)
  eB : ExcT K cB
  eT : ExcT K cT
  xB : PySem.W.exmOne K (.ref cB) (.ref cO) = some true
  xT : PySem.W.exmOne K (.ref cT) (.ref cO) = some true
  kB : PySem.W.kitOne K (.ref cB) (.ref cB) = some true
  kT : PySem.W.kitOne K (.ref cT) (.ref cT) = some true
  nB : PySem.W.findIn K (.ref cB) "part" = some none
  nT1 : PySem.W.findIn K (.ref cT) "what" = some none
  nT2 : PySem.W.findIn K (.ref cT) "most" = some none
structure ShowF (P : Program) (w : World) (K : PySem.W.Frag) (mg : Str → Option Value) (base : Heap) (C cB cT CO CQ : Addr) : Prop where
  ex : ∃ f fd, mg "shows_order" = some (.ref f) ∧ FnOk P w K mg base (L2.CX P w) 10 f fd ["asks", "value"] (spShow K C cB cT CO CQ) ∧ PySem.W.keepIn K (.ref f) = true ∧ Binds K fd ["asks", "value"] []
def EF (cB cT : Addr) (k : Nat) (a : Addr) (H : Hp) : Prop := ∃ d, H a = some (EXO (cls3 cB cT k) a (some d)) ∧ H d = some (.xd (fs3 k))
theorem EF.but {cB cT : Addr} {k : Nat} {a CA : Addr} {xs : List V} {H H' : Hp} (hc : H CA = some (.lst xs)) (b : But CA H H') (h : EF cB cT k a H) : EF cB cT k a H' := by
  obtain ⟨d, h1, h2⟩ := h
  exact ⟨d, b _ _ (fun z => by rw [z, hc] at h1; cases h1) h1, b _ _ (fun z => by rw [z, hc] at h2; cases h2) h2⟩
section
variable {P : Program} {w : World} {K : PySem.W.Frag} {mg : Str → Option Value} {base : Heap} {C CO CQ cO cB cT : Addr}
theorem scRR : FnScope ["well", "caught", "words", "ask_so", "odd", "some", "error"] ["well"] (defScope sRR) := ⟨rfl, rfl, rfl, by decide +kernel, rfl, by decide +kernel, by decide +kernel⟩
theorem ok_rr {f : Addr} {fd : FuncData} (F : Fun K "_law_refused_right" "_law_refused_right" sRR f fd) (T : B1 mg) (A : AskC K mg C) (AO : OrdC K mg CO) (NL : NoLT K C) (RF : RefF K mg cO cB cT) (mko : MkO P w K mg base CO) (sh : ShowF P w K mg base C cB cT CO CQ) (one : Cal P w K mg base "_law_one" 2 ["well", "some"] spOne) (IF : InitF P w K mg base C cB) :
    FnOk P w K mg base CX0 11 f fd ["well"] spRR := by
  obtain ⟨fOi, dOi, MO, GOi, bOi⟩ := mko.ex
  obtain ⟨fSh, dSh, gSh, GSh, kSh, bSh⟩ := sh.ex
  obtain ⟨fO, dO, gO_, GO, kO, bO⟩ := one.ex
  have gOE := RF.gOE
  have gB := RF.gB
  have gT := RF.gT
  obtain ⟨fI, dI, MK, GI, bI5, ⟨ds4, vI4, bI4⟩, ⟨ds3, vI3, bI3⟩, ⟨g1, kb1⟩, ⟨g4, kb4⟩⟩ := IF.ex
  let spI0 : Sp := fun vs H Q _ => spInit K C cB vs H Q fun _ _ _ => False
  have GI0 : FnOk P w K mg base CX0 8 fI dI psI spI0 := FnOk.x0 GI
  refine F.ok scRR (fun vs H Q E h => ?_) (fun cdv A' outer s0 H vs Q E hr h => ?_)
  · obtain ⟨p, c, cells, n, rfl, _⟩ := h
    rfl
  · obtain ⟨p, c, cells, n, rfl, pen, hn, q⟩ := h
    have hr10 : Room 10 _ := hr
    have hr9 : Room 9 _ := hr.mono (by decide)
    have hr4 : Room 4 _ := hr.mono (by decide)
    have hr2 : Room 2 _ := hr.mono (by decide)
    refine ⟨_, (pss_cons (ps_par (i := 1) (j := 2) (by rfl) scRR.nd rfl rfl (by decide) rfl rfl (pa_cons (pe_lst pa_nil) (pa_cons (pe_lst pa_nil) pa_nil)) (by rfl))
(pss_cons (ps_set (i := 3) scRR.nd rfl (Or.inl rfl) (pe_make MK GI0 hr9 (by rfl) A.mg bI4 vI4 pass0 (pa_cons pe_str (pa_cons pe_str (pa_cons pe_int (pa_cons pe_int pa_nil))))))
(pss_cons (ps_set (i := 4) scRR.nd rfl (Or.inl rfl) (pe_call GO hr2 (by rfl) gO_ kO bO .nil pass0 (pa_cons (pv 0) (pa_cons (pe_lst (pa_cons pe_non (pa_cons pe_int (pa_cons pe_str (pa_cons pe_dnewK (pa_cons (pv 3) (pa_cons (pe_lst (pa_cons pe_non pa_nil)) (pa_cons (pe_tup (pa_cons (pv 3) (pa_cons pe_int pa_nil))) pa_nil)))))))) pa_nil))))
(pss_cons (ps_for PassesOwn.never rfl (pi_list (pe_lst (pa_cons (pv 4) (pa_cons (pe_op op_rep (pe_lst (pa_cons (pv 3) pa_nil)) pe_int) (pa_cons (pe_lst (pa_cons (pv 3) (pa_cons (pe_make MK GI0 hr9 (by rfl) A.mg bI5 .nil pass0 (pa_cons pe_str (pa_cons pe_str (pa_cons pe_int (pa_cons pe_int (pa_cons (pe_call GO hr2 (by rfl) gO_ kO bO .nil pass0 (pa_cons (pv 0) (pa_cons (pe_lst (pa_cons pe_int (pa_cons pe_int (pa_cons (pe_op op_pow pe_int pe_int) pa_nil)))) pa_nil))) pa_nil)))))) pa_nil))) pa_nil))))) (pg_name (i := 5) scRR.nd rfl (Or.inl rfl))
(pss_one (ps_try_push (c := .ref cO) (i := 6) (j := 1) (tb := fun W => tDrop (tBM K "list" rAppend (tVar 2) (tCons (tCallW (spShow K C cB cT CO CQ) [] W (tCons (tVar 5) (tCons (tMake CO (spOrdI K CO) [] E0 (tCons (tTup (tCons (tC (.int 0)) tNil)) tNil)) tNil))) tNil))) rfl rfl rfl scRR.nd rfl rfl rfl rfl ⟨rfl, rfl, .inl gOE⟩ LamX.takes0 (by decide) rfl rfl rfl rfl rfl rfl rfl rfl rfl ?hb)))
(pss_cons (ps_if (PW.pt (pw_or (pt_cmpR (op_neD hr.units) (pv 2) (pe_lst pa_nil) (nomark _)) (pw_or (pt_not (pt_val (pe_callB call_isE (by rfl) T.isi (by decide +kernel) (pa_cons (pe_ix (ix_seqK K) (pv 1) pe_int (fun _ _ => rfl)) (pa_cons (pe_glob (v := .ref cB) (by rfl) gB rfl) pa_nil))))) (pw_or (pt_not (pt_val (pe_callB call_isE (by rfl) T.isi (by decide +kernel) (pa_cons (pe_ix (ix_seqK K) (pv 1) pe_int (fun _ _ => rfl)) (pa_cons (pe_glob (v := .ref cT) (by rfl) gT rfl) pa_nil))))) (pw_or1 (pt_not (pt_val (pe_callB call_isE (by rfl) T.isi (by decide +kernel) (pa_cons (pe_ix (ix_seqK K) (pv 1) pe_int (fun _ _ => rfl)) (pa_cons (pe_glob (v := .ref cB) (by rfl) gB rfl) pa_nil))))))))))
(pss_one (ps_ret pe_bl))
pss_nil)
(pss_one (ps_ret (pe_cmpR (op_eqD hr.units) (pe_lst (pa_cons (pe_efK K (pe_ix (ix_seqK K) (pv 1) pe_int (fun _ _ => rfl))) (pa_cons (pe_efK K (pe_ix (ix_seqK K) (pv 1) pe_int (fun _ _ => rfl))) (pa_cons (pe_efK K (pe_ix (ix_seqK K) (pv 1) pe_int (fun _ _ => rfl))) (pa_cons (pe_efK K (pe_ix (ix_seqK K) (pv 1) pe_int (fun _ _ => rfl))) pa_nil))))) (pe_lst (pa_cons pe_str (pa_cons pe_str (pa_cons pe_int (pa_cons pe_int pa_nil))))) (nomark _))))))))), ?_⟩
    case hb => exact fun W pn xe tk _ => pss_one (ps_expr (pe_bm PySem.F.plainAttrs_list PySem.F.slot_list_append PySem.F.type_list_append mt_append (pv 2) (pa_cons (pe_callW GSh hr10 (by rfl) gSh kSh bSh .nil tk (pa_cons (pv 5) (pa_cons (pe_make MO GOi hr4 (by rfl) AO.mg bOi .nil pass0 (pa_cons (pe_tup (pa_cons pe_int pa_nil)) pa_nil)) pa_nil))) pa_nil)))
    refine ⟨Nat.zero_le _, fun CA hCA => ⟨Nat.zero_le _, fun WO hWO => ⟨_, _, rfl, ?_⟩⟩⟩
    have z1 := same_new (o := .lst []) hCA
    have fCA : upd H CA (.lst []) CA = some (.lst []) := upd_same
    have nWC : WO ≠ CA := fun z => by rw [z, upd_same] at hWO; cases hWO
    have z2 := same_new (o := .lst []) hWO
    have fWO : upd (upd H CA (.lst [])) WO (.lst []) WO = some (.lst []) := upd_same
    have nCAp := (pen.nn hCA).1
    have nCAc := (pen.nn hCA).2
    have hCA0 := hCA
    have nWOp := ((pen.mono z1 (Nat.le_refl _)).nn hWO).1
    replace fCA := z2 _ _ fCA
    generalize upd (upd H CA (.lst [])) WO (.lst []) = H0 at z2 fCA fWO ⊢
    have z12 := z1.trans z2
    refine fun AS dx hx hdx ne => mk_row (r := soR) soR_ok (show ("a" : Str).length ≤ 1000 by decide +kernel) hx hdx ne fun H1 s1 ask => ⟨rfl, nx_go ?_⟩
    have pen1 := pen.mono (z12.trans s1) (Nat.le_refl _)
    obtain ⟨dxA, fAS⟩ := id ask
    replace fCA := s1 _ _ fCA
    replace fWO := s1 _ _ fWO
    refine ⟨.ref p, rfl, fun DD hDD => ⟨.ref AS, rfl, by show 1 ≤ sizeLine; decide, fun L5 hL5 => ⟨.ref AS, rfl, by show 2 ≤ sizeLine; decide, fun T6 hT6 => ⟨by show 7 ≤ sizeLine; decide, fun LO hLO => ?_⟩⟩⟩⟩
    have y1 := same_new (o := .dK []) hDD
    have fDD : upd H1 DD (.dK []) DD = some (.dK []) := upd_same
    generalize upd H1 DD (.dK []) = G1 at y1 fDD hL5 hT6 hLO ⊢
    have y2 := same_new (o := .lst [.non]) hL5
    have fL5 : upd G1 L5 (.lst [.non]) L5 = some (.lst [.non]) := upd_same
    generalize upd G1 L5 (.lst [.non]) = G2 at y2 fL5 hT6 hLO ⊢
    have y3 := same_new (o := .tup [.ref AS, .int 1]) hT6
    have fT6 : upd G2 T6 (.tup [.ref AS, .int 1]) T6 = some (.tup [.ref AS, .int 1]) := upd_same
    generalize upd G2 T6 (.tup [.ref AS, .int 1]) = G3 at y3 fT6 hLO ⊢
    have y4 := same_new (o := .lst [.non, .int 0, .str "asks", .ref DD, .ref AS, .ref L5, .ref T6]) hLO
    have fLO : upd G3 LO (.lst [.non, .int 0, .str "asks", .ref DD, .ref AS, .ref L5, .ref T6]) LO = some (.lst [.non, .int 0, .str "asks", .ref DD, .ref AS, .ref L5, .ref T6]) := upd_same
    have sG := y1.trans (y2.trans y3)
    have nLO := ((pen1.mono sG (Nat.le_refl _)).nn hLO).1
    have nL5 := ((pen1.mono y1 (Nat.le_refl _)).nn hL5).1
    generalize upd G3 LO (.lst [.non, .int 0, .str "asks", .ref DD, .ref AS, .ref L5, .ref T6]) = G4 at y4 fLO ⊢
    have s4 := sG.trans y4
    have pen4 := pen1.mono s4 (Nat.le_refl _)
    refine ⟨p, c, LO, cells, _, _, rfl, pen4, by omega, fLO, nLO, by show 0 < 7; decide, by show 7 ≤ 100; decide, fun j xo HA ex penA kp => nx_go ?_⟩
    have gDD := kp _ _ (pen4.ne_of ((y2.trans (y3.trans y4)) _ _ fDD) fun _ z => nomatch z) ((y2.trans (y3.trans y4)) _ _ fDD)
    have gT6 := kp _ _ (pen4.ne_of (y4 _ _ fT6) fun _ z => nomatch z) (y4 _ _ fT6)
    have gL5 := kp _ _ nL5 ((y3.trans y4) _ _ fL5)
    have gAS := kp _ _ (pen4.ne_of (s4 _ _ fAS) fun _ z => nomatch z) (s4 _ _ fAS)
    have gCA := kp _ _ nCAp (s4 _ _ fCA)
    have gWO := kp _ _ nWOp (s4 _ _ fWO)
    have kA := (Kept.of (p := p) (z12.trans (s1.trans s4))).trans kp
    clear y1 y2 y3 y4 sG fLO nLO nL5 s4 pen4 kp fDD fT6 fL5 fAS fCA fWO hDD hL5 hT6 hLO ask pen1 hx hdx ne z12 z2 z1 hCA hWO
    refine ⟨xo, rfl, .ref AS, rfl, by show 1 ≤ sizeLine; decide, fun R5 hR5 => ⟨R5, 1001, _, rfl, rfl, upd_same, by decide, by decide, by show 1 * 1001 ≤ sizeLine; decide, fun R6 hR6 => ?_⟩⟩
    rw [flat_rep]
    have t1 := (same_new (o := .lst [.ref AS]) hR5).trans (same_new (o := .lst (List.replicate (1001 : Int).toNat (V.ref AS))) hR6)
    have fR6 : upd (upd HA R5 (.lst [.ref AS])) R6 (.lst (List.replicate (1001 : Int).toNat (V.ref AS))) R6 = some (.lst (List.replicate 1001 (V.ref AS))) := upd_same
    have nR6 := ((penA.mono (same_new (o := .lst [.ref AS]) hR5) (Nat.le_refl _)).nn hR6).1
    generalize upd (upd HA R5 (.lst [.ref AS])) R6 (.lst (List.replicate (1001 : Int).toNat (V.ref AS))) = HG at t1 fR6 ⊢
    have penG := penA.mono t1 (Nat.le_refl _)
    refine ⟨.ref AS, rfl, .ref p, rfl, 10, 9, rfl, rfl, ⟨by decide, by decide, by decide⟩, by show 3 ≤ sizeLine; decide, fun LB hLB => ?_⟩
    have sB := same_new (o := .lst [.int 1, .int 2, .int ((10 : Int) ^ (9 : Int).toNat)]) hLB
    refine ⟨p, c, LB, cells, _, _, rfl, penG.mono sB (Nat.le_refl _), by omega, upd_same, (penG.nn hLB).1, by show 0 < 3; decide, by show 3 ≤ 100; decide, fun j2 x2 HB ex2 penB kpB => ?_⟩
    obtain ⟨tv, rfl, tv0, tvb⟩ : ∃ tv : Int, x2 = .int tv ∧ 0 ≤ tv ∧ firstBad [soR, badR tv] = some 1 := by
      rcases j2 with _ | _ | _ | j2
      · cases ex2
        exact ⟨1, rfl, by decide, by decide +kernel⟩
      · cases ex2
        exact ⟨2, rfl, by decide, by decide +kernel⟩
      · cases ex2
        exact ⟨1000000000, rfl, by decide, by decide +kernel⟩
      · cases ex2
    refine fun B dxb hxb hdxb neb => mk_row (r := badR tv) (badR_ok tv0) (show ("b" : Str).length ≤ 1000 by decide +kernel) hxb hdxb neb fun HC sC askB => ⟨rfl, by show 2 ≤ sizeLine; decide, fun R7 hR7 => ⟨by show 3 ≤ sizeLine; decide, fun LL hLL => ?_⟩⟩
    have u1 := same_new (o := .lst [.ref AS, .ref B]) hR7
    have fR7 : upd HC R7 (.lst [.ref AS, .ref B]) R7 = some (.lst [.ref AS, .ref B]) := upd_same
    generalize upd HC R7 (.lst [.ref AS, .ref B]) = HD at u1 fR7 hLL ⊢
    have u2 := same_new (o := .lst [xo, .ref R6, .ref R7]) hLL
    have fLL : upd HD LL (.lst [xo, .ref R6, .ref R7]) LL = some (.lst [xo, .ref R6, .ref R7]) := upd_same
    generalize upd HD LL (.lst [xo, .ref R6, .ref R7]) = HL at u2 fLL ⊢
    have kAL : Kept p HA HL := (Kept.of (t1.trans sB)).trans (kpB.trans (Kept.of (sC.trans (u1.trans u2))))
    have kG : Kept p HG HL := (Kept.of sB).trans (kpB.trans (Kept.of (sC.trans (u1.trans u2))))
    have penL := penB.mono (sC.trans (u1.trans u2)) (Nat.le_refl _)
    have hDD := kAL _ _ (penA.ne_of gDD fun _ z => nomatch z) gDD
    have hT6 := kAL _ _ (penA.ne_of gT6 fun _ z => nomatch z) gT6
    have nL5 : L5 ≠ p := fun z => by
      obtain ⟨x, g, hp, _⟩ := penA.ex
      rw [z, hp] at gL5
      cases gL5
    have hL5 := kAL _ _ nL5 gL5
    have hAS := kAL _ _ (penA.ne_of gAS fun _ z => nomatch z) gAS
    have hCA := kAL _ _ nCAp gCA
    have hWO := kAL _ _ nWOp gWO
    have hR6 := kG _ _ nR6 fR6
    have hR7 := u2 _ _ fR7
    have askB := askB.mono (u1.trans u2)
    have kAll := kA.trans kAL
    have nCA : ∀ {b : Addr} {o : HO}, HL b = some o → o ≠ .lst [] → b ≠ CA := fun e ne z => ne (by rw [z, hCA] at e; exact (Option.some.inj e).symm)
    have od : ∀ H', But CA HL H' → BadH K C xo H' := fun H' k => by
      rcases j with _ | _ | _ | _ | _ | _ | _ | j
      · cases ex
        exact .inl ⟨.type "NoneType", .base (.non), (NL.ts "NoneType" (by simp)).1, (NL.ts "NoneType" (by simp)).2⟩
      · cases ex
        exact .inl ⟨.type "int", .base (.int _), (NL.ts "int" (by simp)).1, (NL.ts "int" (by simp)).2⟩
      · cases ex
        exact .inl ⟨.type "str", .base (.str _), (NL.ts "str" (by simp)).1, (NL.ts "str" (by simp)).2⟩
      · cases ex
        exact .inl ⟨.type "dict", .base (TyOf.dK (k _ _ (nCA hDD fun z => nomatch z) hDD)), (NL.ts "dict" (by simp)).1, (NL.ts "dict" (by simp)).2⟩
      · cases ex
        exact .inl ⟨.ref C, .base (A.ty H' AS dxA _ (k _ _ (nCA hAS fun z => nomatch z) hAS)), NL.c.1, NL.c.2⟩
      · cases ex
        exact badh_one (.inl (SqL.of (k _ _ (nCA hL5 fun z => nomatch z) hL5))) (.base .non) (A.no "NoneType" (by simp))
      · cases ex
        exact badh_pair (.inr (SqT.of (k _ _ (nCA hT6 fun z => nomatch z) hT6))) (.base (A.ty H' AS dxA _ (k _ _ (nCA hAS fun z => nomatch z) hAS))) A.me (.base (.int _)) (A.no "int" (by simp)) (fun z => nomatch z)
      · cases ex
    clear gDD gT6 gL5 gAS gCA gWO kA kAL kG penA penG penB t1 fR6 nR6 sB kpB ex2 sC u1 u2 fR7 ex hxb hdxb neb hLB
    obtain ⟨dxB, hB⟩ := askB
    have ask1 : ∀ H', But CA HL H' → AskAt C H' AS soR := fun H' k => ⟨dxA, k _ _ (nCA hAS fun z => nomatch z) hAS⟩
    have ask2 : ∀ H', But CA HL H' → AskAt C H' B (badR tv) := fun H' k => ⟨dxB, k _ _ (nCA hB fun z => nomatch z) hB⟩
    have nR6' : R6 ≠ CA := nCA hR6 fun z => by
      have := congrArg List.length (HO.lst.inj z)
      rw [List.length_replicate] at this
      cases this
    have nR7' : R7 ≠ CA := nCA hR7 fun z => nomatch z
    have lk : ∀ (i : Nat) (x : V) (H' : Hp) (E' : XK) (go : Addr → List Row → Prop), [xo, .ref R6, .ref R7][i]? = some x → But CA HL H' → OutF (cls3 cB cT i) (fs3 i) H' E' → Looked K C cB cT x H' E' go := by
      intro i x H' E' go e k o
      rcases i with _ | _ | _ | i
      · cases e
        exact looked_bad (od H' k) o
      · cases e
        refine .inr (.inr ⟨R6, List.replicate 1001 soR, rfl, ⟨List.replicate 1001 AS, .inl (SqL.of (by rw [List.map_replicate]; exact k _ _ nR6' hR6)), by rw [List.length_replicate, List.length_replicate], fun i q r e1 e2 => ?_⟩, by rw [List.length_replicate]; decide, fun r m => ?_, fun _ => o, fun z => ?_, fun z => ?_⟩)
        · have h1 := List.eq_of_mem_replicate (List.mem_of_getElem? e1)
          have h2 := List.eq_of_mem_replicate (List.mem_of_getElem? e2)
          rw [h1, h2]
          exact ask1 H' k
        · rw [List.eq_of_mem_replicate m]
          exact soR_ok
        · rw [List.length_replicate] at z
          exact absurd z (by decide)
        · rw [List.length_replicate] at z
          exact absurd z (by decide)
      · cases e
        refine .inr (.inr ⟨R7, [soR, badR tv], rfl, ⟨[AS, B], .inl (SqL.of (k _ _ nR7' hR7)), rfl, fun i q r e1 e2 => ?_⟩, by show 2 ≤ 2000; decide, fun r m => ?_, fun z => absurd z (by show ¬ 1000 < 2; decide), fun _ i z => ?_, fun _ z => ?_⟩)
        · rcases i with _ | _ | i
          · cases e1
            cases e2
            exact ask1 H' k
          · cases e1
            cases e2
            exact ask2 H' k
          · cases e1
        · rcases List.mem_cons.mp m with rfl | m
          · exact soR_ok
          · rcases List.mem_cons.mp m with rfl | m
            · exact badR_ok tv0
            · cases m
        · rw [tvb] at z
          cases z
          exact o
        · rw [tvb] at z
          cases z
      · cases e
    have xk : ∀ i, PySem.W.exmOne K (.ref (cls3 cB cT i)) (.ref cO) = some true := fun i => by
      rcases i with _ | _ | i
      · exact RF.xB
      · exact RF.xT
      · exact RF.xB
    have nLL : LL ≠ CA := nCA fLL fun z => nomatch z
    refine ⟨LL, rfl, ⟨_, SqL.of fLL⟩, ?_⟩
    refine for_it (walk_list (K := K) (a := LL) (xs := [xo, .ref R6, .ref R7])) (g := gName 5) (tb := fun D σ H => tDrop (tBM K "list" rAppend (tVar 2) (tCons (tCallW (spShow K C cB cT CO CQ) [] (wPush K (.ref cO) 6 1 _ D) (tCons (tVar 5) (tCons (tMake CO (spOrdI K CO) [] E0 (tCons (tTup (tCons (tC (.int 0)) tNil)) tNil)) tNil))) tNil)) D σ H) (fun i σ H' => ∃ x5 es, σ = [some (.ref p), some (.ref CA), some (.ref WO), some (.ref AS), some xo, x5, none] ∧ But CA HL H' ∧ H' CA = some (.lst (es.map V.ref)) ∧ es.length = i ∧ ∀ k a, es[k]? = some a → EF cB cT k a H') ⟨_, [], rfl, fun _ _ _ e => e, hCA, rfl, fun k a e => nomatch e⟩ (fun i σ H' _ ⟨_, _, _, k, _⟩ => SqL.of (k _ _ nLL fLL)) ?_ ?_
    · rintro i x σ H1 H2 hi ⟨x5, es, rfl, bu, hC, el, ef⟩ ⟨rfl, hx⟩
      refine nx_go ?_
      refine ⟨_, rfl, .inl ⟨rfl, _, SqL.of (bu _ _ nWC hWO)⟩, ?_⟩
      refine ⟨_, rfl, by show 1 ≤ sizeLine; decide, fun t ht => fun xq dxq hxq hdxq neq => ord_go hxq hdxq neq (Bent.tup (xs := [.int 0]) (SqT.of upd_same) (fun x m => by rw [List.mem_singleton.mp m]; rfl) (by show 1 ≤ 2000; decide)).cp fun H3 s3 odq => ?_⟩
      have sT := (same_new (o := .tup [.int 0]) ht).trans s3
      have bu3 : But CA HL H3 := fun b o ne e => sT _ _ (bu b o ne e)
      have il : i < 3 := hi
      refine ⟨x, .ref xq, rfl, lk i x H3 _ _ hx bu3 fun d H4 s4 hd => ⟨_, rfl, true, xk i, fun _ => ⟨CA, es.map V.ref, rfl, s4 _ _ (sT _ _ hC), ?_, fun a ha => ?_⟩, fun z => nomatch z⟩⟩
      · rw [List.length_map]
        exact Nat.lt_of_le_of_lt (show es.length ≤ 3 by omega) (by decide)
      · have hC4 := s4 _ _ (sT _ _ hC)
        have nda : d ≠ a := fun z => by rw [z, ha] at hd; cases hd
        have ndC : d ≠ CA := fun z => by rw [z, hC4] at hd; cases hd
        have naC : CA ≠ a := ne_of_none hC4 ha
        have b5 : But CA H4 (upd (upd H4 CA (.lst (es.map V.ref ++ [.ref a]))) a (EXO (cls3 cB cT i) a (some d))) := fun b o ne e => by
          rw [upd_ne (ne_of_none e ha), upd_ne ne]
          exact e
        refine ⟨_, es ++ [a], rfl, fun b o ne e => b5 _ _ ne (s4 _ _ (bu3 b o ne e)), by rw [upd_ne naC, upd_same, List.map_append]; rfl, by rw [List.length_append, el]; rfl, fun k b e => ?_⟩
        by_cases hk : k < es.length
        · rw [List.getElem?_append_left hk] at e
          obtain ⟨d', h1, h2⟩ := ef k b e
          exact EF.but hC4 b5 ⟨d', s4 _ _ (sT _ _ h1), s4 _ _ (sT _ _ h2)⟩
        · rw [List.getElem?_append_right (by omega)] at e
          have hk0 : k - es.length = 0 := by
            cases hz : k - es.length with
            | zero => rfl
            | succ m => rw [hz] at e; cases e
          rw [hk0] at e
          cases e
          obtain rfl : k = i := by omega
          exact ⟨d, upd_same, by rw [upd_ne nda, upd_ne ndC]; exact hd⟩
    · rintro σ H1 ⟨x5, es, rfl, bu, hC, el, ef⟩
      obtain ⟨a0, a1, a2, rfl⟩ : ∃ a b c, es = [a, b, c] := by
        match es, el with
        | [a, b, c], _ => exact ⟨a, b, c, rfl⟩
      obtain ⟨d0, e0, f0⟩ := ef 0 a0 rfl
      obtain ⟨d1, e1, f1⟩ := ef 1 a1 rfl
      obtain ⟨d2, e2, f2⟩ := ef 2 a2 rfl
      have hW := bu _ _ nWC hWO
      have s2 : ∀ {L : Addr} (_ : H1 L = none), Same H1 (upd H1 L (.lst [])) := fun h => same_new h
      refine ⟨_, rfl, Nat.zero_le _, fun N hN => ⟨_, _, Dp.lst (SqL.of (s2 hN _ _ hW)) .nil, Dp.lst (SqL.of upd_same) .nil, by decide +kernel, by decide +kernel, false, rfl, iteF' ?_⟩⟩
      have sN := s2 hN
      replace hC := sN _ _ hC
      replace e0 := sN _ _ e0
      replace e1 := sN _ _ e1
      replace e2 := sN _ _ e2
      replace f0 := sN _ _ f0
      replace f1 := sN _ _ f1
      replace f2 := sN _ _ f2
      have pen1 : PenAt H1 p c cells (n + 2) := by
        obtain ⟨x, g, h1, h2⟩ := penL.ex
        exact ⟨⟨x, g, bu _ _ (Ne.symm nCAp) h1, h2⟩, bu _ _ (Ne.symm nCAc) penL.cs, penL.few, penL.ne⟩
      have k1 : Kept p H H1 := fun b o ne e => bu b o (ne_of_none e hCA0) (kAll b o ne e)
      have pen2 := pen1.mono sN (Nat.le_refl _)
      have k2 := k1.trans (Kept.of sN)
      generalize upd H1 N (.lst []) = H2 at hC e0 e1 e2 f0 f1 f2 sN pen2 k2 ⊢
      have sqC : Sq K H2 CA [V.ref a0, V.ref a1, V.ref a2] := .inl (SqL.of hC)
      refine ⟨_, rfl, Sq.ix sqC rfl ⟨a0, cB, some d0, .ref cB, .ref cB, true, rfl, .own _, RF.eB, e0, fun dd z => (by cases z; exact ⟨_, .inr f0⟩), RF.kB, true, rfl, iteF' ?_⟩⟩
      refine ⟨_, rfl, Sq.ix sqC rfl ⟨a1, cT, some d1, .ref cT, .ref cT, true, rfl, .own _, RF.eT, e1, fun dd z => (by cases z; exact ⟨_, .inr f1⟩), RF.kT, true, rfl, iteF' ?_⟩⟩
      refine ⟨_, rfl, Sq.ix sqC rfl ⟨a2, cB, some d2, .ref cB, .ref cB, true, rfl, .own _, RF.eB, e2, fun dd z => (by cases z; exact ⟨_, .inr f2⟩), RF.kB, true, rfl, iteF' ?_⟩⟩
      refine ⟨_, rfl, Sq.ix sqC rfl ⟨a0, cB, d0, _, .str "asks", rfl, RF.eB, RF.nB, e0, .inr f0, rfl, ?_⟩⟩
      refine ⟨_, rfl, Sq.ix sqC rfl ⟨a1, cT, d1, _, .str "asks", rfl, RF.eT, RF.nT1, e1, .inr f1, rfl, ?_⟩⟩
      refine ⟨_, rfl, Sq.ix sqC rfl ⟨a1, cT, d1, _, .int 1000, rfl, RF.eT, RF.nT2, e1, .inr f1, rfl, ?_⟩⟩
      refine ⟨_, rfl, Sq.ix sqC rfl ⟨a2, cB, d2, _, .int 1, rfl, RF.eB, RF.nB, e2, .inr f2, rfl, ?_⟩⟩
      refine ⟨by show 4 ≤ sizeLine; decide, fun M1 hM1 => ⟨by show 4 ≤ sizeLine; decide, fun M2 hM2 => ?_⟩⟩
      have sM := (same_new (o := .lst [.str "asks", .str "asks", .int 1000, .int 1]) hM1).trans (same_new (o := .lst [.str "asks", .str "asks", .int 1000, .int 1]) hM2)
      refine ⟨_, _, Dp.lst (SqL.of ((same_new hM2) _ _ upd_same)) (.cons (.str _) (.cons (.str _) (.cons (.int _) (.cons (.int _) .nil)))), Dp.lst (SqL.of upd_same) (.cons (.str _) (.cons (.str _) (.cons (.int _) (.cons (.int _) .nil)))), by decide +kernel, by decide +kernel, ?_⟩
      have := q _ (pen2.mono sM (Nat.le_refl _)) (k2.trans (Kept.of sM))
      rw [show PyData.eqv (.list [.str "asks", .str "asks", .int 1000, .int 1]) (.list [.str "asks", .str "asks", .int 1000, .int 1]) = true from by decide +kernel]
      exact this
end
end K37
end

section
set_option Elab.async false
set_option linter.all false
set_option maxRecDepth 100000
set_option maxHeartbeats 4000000
/-! lists of orders as data -/
namespace K37
open PySem PySem.Spec PyProof.Rows L2 KZ
def tupN (o : List Nat) : PyData := .tuple ((o.map fun (i : Nat) => (i : Int)).map PyData.int)
def ordsD (os : List (List Nat)) : PyData := .list (os.map tupN)
theorem ords_all {K : PySem.W.Frag} {H : Hp} : ∀ {ts : List Addr} {os : List (List Nat)}, Paired (fun t o => TupD H t (nats o)) ts os → DpAll K H (ts.map V.ref) (os.map tupN)
  | _, _, .nil => .nil
  | _, _, .cons (a := t) (b := o) h r => .cons (.tup (xs := (o.map fun (i : Nat) => (i : Int)).map V.int) (by
      have := h.sq (K := K)
      rw [nats_ints] at this
      exact this) (dp_ints _)) (ords_all r)
theorem ords_dp {K : PySem.W.Frag} {H : Hp} {L : Addr} {ts : List Addr} {os : List (List Nat)} (hl : H L = some (.lst (ts.map V.ref))) (h : Paired (fun t o => TupD H t (nats o)) ts os) : Dp K H (.ref L) (ordsD os) := .lst (SqL.of hl) (ords_all h)
theorem ords_can : ∀ os : List (List Nat), PyData.canLayAll0 (os.map tupN) = true ∧ PyData.depthAll (os.map tupN) ≤ 1
  | [] => ⟨rfl, Nat.zero_le _⟩
  | o :: os => by
    obtain ⟨a, b⟩ := ords_can os
    refine ⟨?_, ?_⟩
    · show (PyData.canLayAll0 ((o.map fun (i : Nat) => (i : Int)).map PyData.int) && PyData.canLayAll0 (os.map tupN)) = true
      rw [can_ints, a]
      rfl
    · show max (PyData.depthAll ((o.map fun (i : Nat) => (i : Int)).map PyData.int) + 1) (PyData.depthAll (os.map tupN)) ≤ 1
      rw [depth_ints]
      omega
theorem ords_shaped (os : List (List Nat)) : SeqAt.shaped (ordsD os) = true := by
  obtain ⟨a, b⟩ := ords_can os
  refine shaped_of a ?_
  show PyData.depthAll (os.map tupN) + 1 ≤ 64
  omega
theorem eqv_ords (os : List (List Nat)) : PyData.eqv (ordsD os) (.list []) = os.isEmpty := by cases os <;> rfl
end K37
end

section
set_option Elab.async false
set_option linter.all false
set_option maxRecDepth 100000
set_option maxHeartbeats 4000000
/-! the law -/
namespace K37
open PySem PySem.Spec PyProof.Rows L2 KZ
abbrev sLaw : Stmt := top 57
def spLaw (K : PySem.W.Frag) : Sp := fun vs H Q _ => ∃ (a : Addr) (ns : List Int), vs = [.ref a] ∧ SqL K H a (ns.map V.int) ∧ ns.length ≤ 63 ∧ ∀ H', Q (.bl true) H'
def crossR : List Row := [⟨"a", false, 0, some 3, none⟩, ⟨"b", true, 1, some 2, some 0⟩, ⟨"c", true, 4, some 5, none⟩, ⟨"d", false, 9, none, none⟩]
theorem cross_ok : ∀ r ∈ crossR, r.Ok := by
  intro r m
  unfold crossR at m
  simp only [List.mem_cons, List.not_mem_nil, or_false] at m
  rcases m with rfl | rfl | rfl | rfl <;> exact row_ok' (by decide +kernel) (by decide) (fun x z => by cases z <;> decide) (fun x z => by cases z <;> exact ⟨rfl, (fun y => nomatch y), by decide⟩)
theorem cross_cl : ∀ r ∈ crossR, r.c.length ≤ 1000 := by
  intro r m
  unfold crossR at m
  simp only [List.mem_cons, List.not_mem_nil, or_false] at m
  rcases m with rfl | rfl | rfl | rfl <;> decide +kernel
theorem cross_nb : firstBad crossR = none := by decide +kernel
theorem cross_q : quarB crossR (.str "lots") (.int 0) .none = true := by decide +kernel
theorem sc_row {r : Row} {gs : List Bool} {s : Int} {g : Bool} (h : RowOk gs s g r) : r.c.length ≤ 1000 := Nat.le_trans h.short (by decide)
theorem ords_kept {H H' : Hp} {p c L : Addr} {cells : List Int} {n : Nat} {os : List (List Nat)} (pn : PenAt H p c cells n) (k : Kept p H H') (h : OrdersAt H L os) : OrdersAt H' L os := by
  obtain ⟨x, g, hp, _⟩ := pn.ex
  obtain ⟨ts, h1, h2⟩ := h
  refine ⟨ts, k _ _ (fun z => ?_) h1, Paired.mapP h2 fun t o z => z.mono fun ob e => k _ _ (fun y => by rw [y, hp] at e; cases e) e⟩
  rw [z, hp] at h1
  have e := HO.lst.inj (Option.some.inj h1)
  rcases ts with _ | ⟨_, _ | ⟨_, _⟩⟩ <;> cases e
structure CalsL (P : Program) (w : World) (K : PySem.W.Frag) (mg : Str → Option Value) (base : Heap) (C CO CQ : Addr) : Prop where
  well : Cal P w K mg base "_law_well" 1 ["script"] (spPen K)
  rows : Cal P w K mg base "_law_rows" 3 ["well", "many", "span"] spRows
  draw : Cal P w K mg base "_law_draw" 1 ["well", "many"] spDraw
  one : Cal P w K mg base "_law_one" 2 ["well", "some"] spOne
  oneL : Cal P w K mg base "_law_one" 2 ["well", "some"] spOneL
  lk : Cal P w K mg base "_law_looked" 11 ["rows", "value"] (spLk K CO CQ)
  ords : Cal P w K mg base "_law_orders" 2 ["rows"] spLOrders
  parts : Cal P w K mg base "_law_parts" 1 ["rows"] spLParts
  led : Cal P w K mg base "_law_led" 3 ["well", "many", "spread"] spLed
  rr : Cal P w K mg base "_law_refused_right" 11 ["well"] spRR
  qr : CalG P w K mg base "_law_quarrels_right" 12 ["well", "rows"] spQR
  or_ : CalG P w K mg base "_law_order_right" 12 ["well", "rows", "order"] (spOR K)
  lq : CalG P w K mg base "_law_led_quarrels_right" 12 ["well", "rows"] spLQ
  gr : CalG P w K mg base "_law_great_right" 13 ["well"] spGR
section
variable {P : Program} {w : World} {K : PySem.W.Frag} {mg : Str → Option Value} {base : Heap} {C CO CQ : Addr}
theorem scLaw : FnScope ["script", "well", "cross", "turn", "rows", "orders", "order"] ["script"] (defScope sLaw) := ⟨rfl, rfl, rfl, by decide +kernel, rfl, by decide +kernel, by decide +kernel⟩
theorem ok_law {f : Addr} {fd : FuncData} (F : Fun K "law" "law" sLaw f fd) (T : B1 mg) (AO : OrdC K mg CO) (AQ : QuaC K mg CQ CO) (mko : MkO P w K mg base CO) (mkq : MkQ P w K mg base CQ) (CL : CalsL P w K mg base C CO CQ) : FnG P w K mg base CX0 14 f fd ["script"] (spLaw K) := by
  obtain ⟨fOi, dOi, MO, GOi, bOi⟩ := mko.ex
  obtain ⟨fQi, dQi, MQ, GQi, bQi⟩ := mkq.ex
  obtain ⟨fW, dW, gW, GW, kW, bW⟩ := CL.well.ex
  obtain ⟨fR, dR, gR, GR, kR, bR⟩ := CL.rows.ex
  obtain ⟨fD, dD, gD, GD, kD, bD⟩ := CL.draw.ex
  obtain ⟨fO, dO, gO_, GO, kO, bO⟩ := CL.one.ex
  obtain ⟨fOL, dOL, gOL, GOL, kOL, bOL⟩ := CL.oneL.ex
  obtain ⟨fLk, dLk, gLk, GLk, kLk, bLk⟩ := CL.lk.ex
  obtain ⟨fLO, dLO, gLO, GLO, kLO, bLO⟩ := CL.ords.ex
  obtain ⟨fP, dP, gP, GP, kP, bP⟩ := CL.parts.ex
  obtain ⟨fLd, dLd, gLd, GLd, kLd, bLd⟩ := CL.led.ex
  obtain ⟨fRR, dRR, gRR, GRR, kRR, bRR⟩ := CL.rr.ex
  obtain ⟨fQR, dQR, gQR, GQR, kQR, bQR⟩ := CL.qr.ex
  obtain ⟨fOR, dOR, gOR, GOR, kOR, bOR⟩ := CL.or_.ex
  obtain ⟨fLQ, dLQ, gLQ, GLQ, kLQ, bLQ⟩ := CL.lq.ex
  obtain ⟨fGt, dGt, gGt, GGt, kGt, bGt⟩ := CL.gr.ex
  refine okG F scLaw (fun vs H Q E h => ?_) (fun cdv A' outer s0 H vs Q E hgd hr h => ?_)
  · obtain ⟨a, ns, rfl, _⟩ := h
    rfl
  · obtain ⟨a, ns, rfl, hs, hl, q⟩ := h
    have hr13 : Room 13 _ := hr
    have hr12 : Room 12 _ := hr.mono (by decide)
    have hr11 : Room 11 _ := hr.mono (by decide)
    have hr4 : Room 4 _ := hr.mono (by decide)
    have hr3 : Room 3 _ := hr.mono (by decide)
    have hr2 : Room 2 _ := hr.mono (by decide)
    have hr1 : Room 1 _ := hr.mono (by decide)
    refine ⟨_, (pss_cons (ps_set (i := 1) scLaw.nd rfl (Or.inl rfl) (pe_call GW hr1 (by rfl) gW kW bW .nil pass0 (pa_cons (pv 0) pa_nil)))
(pss_cons (ps_set (i := 2) scLaw.nd rfl (Or.inl rfl) (pe_lst (pa_cons (pe_tup (pa_cons pe_str (pa_cons pe_str (pa_cons pe_int (pa_cons pe_int (pa_cons pe_non pa_nil)))))) (pa_cons (pe_tup (pa_cons pe_str (pa_cons pe_str (pa_cons pe_int (pa_cons pe_int (pa_cons pe_int pa_nil)))))) (pa_cons (pe_tup (pa_cons pe_str (pa_cons pe_str (pa_cons pe_int (pa_cons pe_int (pa_cons pe_non pa_nil)))))) (pa_cons (pe_tup (pa_cons pe_str (pa_cons pe_str (pa_cons pe_int (pa_cons pe_non (pa_cons pe_non pa_nil)))))) pa_nil))))))
(pss_cons (ps_if (PW.pt (pw_or (pt_not (pt_val (pe_callG GQR hgd hr12 (by rfl) gQR kQR bQR .nil pass0 (pa_cons (pv 1) (pa_cons (pv 2) pa_nil))))) (pw_or1 (pt_cmpR op_notBl (pe_call GLk hr11 (by rfl) gLk kLk bLk .nil pass0 (pa_cons (pv 2) (pa_cons (pe_make MQ GQi hr4 (by rfl) AQ.mg bQi .nil pass0 (pa_cons pe_str (pa_cons pe_int (pa_cons pe_non pa_nil)))) pa_nil))) pe_bl (nomark _)))))
(pss_one (ps_ret pe_bl))
pss_nil)
(pss_cons (ps_for PassesOwn.never rfl (pi_range1 (by rfl) T.range (pa_cons pe_int pa_nil)) (pg_name (i := 3) scLaw.nd rfl (Or.inl rfl))
(pss_cons (ps_set (i := 4) scLaw.nd rfl (Or.inl rfl) (pe_call GR hr3 (by rfl) gR kR bR .nil pass0 (pa_cons (pv 1) (pa_cons (pe_call GD hr1 (by rfl) gD kD bD .nil pass0 (pa_cons (pv 1) (pa_cons pe_int pa_nil))) (pa_cons (pe_call GO hr2 (by rfl) gO_ kO bO .nil pass0 (pa_cons (pv 1) (pa_cons (pe_lst (pa_cons pe_int (pa_cons pe_int (pa_cons pe_int (pa_cons pe_int pa_nil))))) pa_nil))) pa_nil)))))
(pss_cons (ps_if (pt_not (pt_val (pe_callG GQR hgd hr12 (by rfl) gQR kQR bQR .nil pass0 (pa_cons (pv 1) (pa_cons (pv 4) pa_nil)))))
(pss_one (ps_ret pe_bl))
pss_nil)
(pss_cons (ps_set (i := 5) scLaw.nd rfl (Or.inl rfl) (pe_call GLO hr2 (by rfl) gLO kLO bLO .nil pass0 (pa_cons (pv 4) pa_nil)))
(pss_cons (ps_if (PW.pt (pw_and (pt_cmpR (op_neD hr.units) (pv 5) (pe_lst pa_nil) (nomark _)) (pw_and1 (pt_not (pt_val (pe_callG GOR hgd hr12 (by rfl) gOR kOR bOR .nil pass0 (pa_cons (pv 1) (pa_cons (pv 4) (pa_cons (pe_call GOL hr2 (by rfl) gOL kOL bOL .nil pass0 (pa_cons (pv 1) (pa_cons (pv 5) pa_nil))) pa_nil)))))))))
(pss_one (ps_ret pe_bl))
pss_nil)
(pss_one (ps_if (PW.pt (pw_and (pt_cmpR (op_eqD hr.units) (pv 5) (pe_lst pa_nil) (nomark _)) (pw_and1 (pt_cmpR op_notBl (pe_call GLk hr11 (by rfl) gLk kLk bLk .nil pass0 (pa_cons (pv 4) (pa_cons (pe_make MO GOi hr4 (by rfl) AO.mg bOi .nil pass0 (pa_cons (pe_callTy (call_tupK K) (by rfl) T.tuple (by decide +kernel) (pa_cons (pe_call GP hr1 (by rfl) gP kP bP .nil pass0 (pa_cons (pv 4) pa_nil)) pa_nil)) pa_nil)) pa_nil))) pe_bl (nomark _)))))
(pss_one (ps_ret pe_bl))
pss_nil)))))))
(pss_cons (ps_asg (pe_call GLd hr3 (by rfl) gLd kLd bLd .nil pass0 (pa_cons (pv 1) (pa_cons (pe_call GO hr2 (by rfl) gO_ kO bO .nil pass0 (pa_cons (pv 1) (pa_cons (pe_lst (pa_cons pe_int (pa_cons pe_int (pa_cons pe_int (pa_cons pe_int pa_nil))))) pa_nil))) (pa_cons (pe_call GO hr2 (by rfl) gO_ kO bO .nil pass0 (pa_cons (pv 1) (pa_cons (pe_lst (pa_cons pe_int (pa_cons pe_int (pa_cons pe_int pa_nil)))) pa_nil))) pa_nil)))) (pg_tup rfl (pgs_cons (pg_name (i := 4) scLaw.nd rfl (Or.inl rfl)) (pgs_cons (pg_name (i := 6) scLaw.nd rfl (Or.inl rfl)) pgs_nil))))
(pss_cons (ps_if (PW.pt (pw_or (pt_not (pt_val (pe_callG GOR hgd hr12 (by rfl) gOR kOR bOR .nil pass0 (pa_cons (pv 1) (pa_cons (pv 4) (pa_cons (pv 6) pa_nil)))))) (pw_or (pt_not (pt_val (pe_callG GLQ hgd hr12 (by rfl) gLQ kLQ bLQ .nil pass0 (pa_cons (pv 1) (pa_cons (pv 4) pa_nil))))) (pw_or1 (pt_not (pt_val (pe_call GRR hr11 (by rfl) gRR kRR bRR .nil pass0 (pa_cons (pv 1) pa_nil))))))))
(pss_one (ps_ret pe_bl))
pss_nil)
(pss_one (ps_ret (pe_or (pe_cmpR op_gt (pe_call GD hr1 (by rfl) gD kD bD .nil pass0 (pa_cons (pv 1) (pa_cons pe_int pa_nil))) pe_int (nomark _)) (pe_one (pe_callG GGt hgd hr13 (by rfl) gGt kGt bGt .nil pass0 (pa_cons (pv 1) pa_nil)))))))))))), ?_⟩
    refine ⟨.ref a, rfl, ?_⟩
    dsimp only [tNil]
    refine ⟨a, ns, rfl, hs, hl, fun p c cells H0 hp hc s1 pen => nx_go ?_⟩
    refine ⟨by show 5 ≤ sizeLine; decide, fun T0' q0 => ⟨by show 5 ≤ sizeLine; decide, fun T1 q1 => ⟨by show 5 ≤ sizeLine; decide, fun T2 q2 => ⟨by show 5 ≤ sizeLine; decide, fun T3 q3 => ⟨by show 4 ≤ sizeLine; decide, fun C1 q4 => nx_go ?_⟩⟩⟩⟩⟩
    have z0 := same_new (o := .tup [.str "a", .str "put", .int 0, .int 3, .non]) q0
    have f0 : upd H0 T0' (.tup [.str "a", .str "put", .int 0, .int 3, .non]) T0' = some (.tup [.str "a", .str "put", .int 0, .int 3, .non]) := upd_same
    generalize upd H0 T0' (.tup [.str "a", .str "put", .int 0, .int 3, .non]) = K0 at z0 f0 q1 q2 q3 q4 ⊢
    have z1 := same_new (o := .tup [.str "b", .str "get", .int 1, .int 2, .int 0]) q1
    have f1 : upd K0 T1 (.tup [.str "b", .str "get", .int 1, .int 2, .int 0]) T1 = some (.tup [.str "b", .str "get", .int 1, .int 2, .int 0]) := upd_same
    generalize upd K0 T1 (.tup [.str "b", .str "get", .int 1, .int 2, .int 0]) = K1 at z1 f1 q2 q3 q4 ⊢
    have z2 := same_new (o := .tup [.str "c", .str "get", .int 4, .int 5, .non]) q2
    have f2 : upd K1 T2 (.tup [.str "c", .str "get", .int 4, .int 5, .non]) T2 = some (.tup [.str "c", .str "get", .int 4, .int 5, .non]) := upd_same
    generalize upd K1 T2 (.tup [.str "c", .str "get", .int 4, .int 5, .non]) = K2 at z2 f2 q3 q4 ⊢
    have z3 := same_new (o := .tup [.str "d", .str "put", .int 9, .non, .non]) q3
    have f3 : upd K2 T3 (.tup [.str "d", .str "put", .int 9, .non, .non]) T3 = some (.tup [.str "d", .str "put", .int 9, .non, .non]) := upd_same
    generalize upd K2 T3 (.tup [.str "d", .str "put", .int 9, .non, .non]) = K3 at z3 f3 q4 ⊢
    have z4 := same_new (o := .lst [.ref T0', .ref T1, .ref T2, .ref T3]) q4
    have f4 : upd K3 C1 (.lst [.ref T0', .ref T1, .ref T2, .ref T3]) C1 = some (.lst [.ref T0', .ref T1, .ref T2, .ref T3]) := upd_same
    generalize upd K3 C1 (.lst [.ref T0', .ref T1, .ref T2, .ref T3]) = K4 at z4 f4 ⊢
    have rowsC : RowsAt K4 C1 crossR := ⟨[T0', T1, T2, T3], f4, rfl, fun i q r e1 e2 => by
      rcases i with _ | _ | _ | _ | i
      · cases e1; cases e2
        exact (z1.trans (z2.trans (z3.trans z4))) _ _ f0
      · cases e1; cases e2
        exact (z2.trans (z3.trans z4)) _ _ f1
      · cases e1; cases e2
        exact (z3.trans z4) _ _ f2
      · cases e1; cases e2
        exact z4 _ _ f3
      · cases e1⟩
    have pen4 := pen.mono (z0.trans (z1.trans (z2.trans (z3.trans z4)))) (Nat.le_refl _)
    clear z0 z1 z2 z3 z4 f0 f1 f2 f3 f4 q0 q1 q2 q3 q4 pen s1 hs hp hc
    refine ⟨_, rfl, _, rfl, p, c, C1, cells, _, crossR, rfl, pen4, by omega, rowsC, by decide, cross_ok, cross_cl, cross_nb, fun H5 pen5 k5 => ⟨true, rfl, iteF' ?_⟩⟩
    have rows5 := rows_kept pen4 k5 rowsC
    refine ⟨_, rfl, fun xq dq hxq hdq neq => qua_go hxq hdq neq (Cpb.sc (x := .str "lots") (by decide +kernel)) (Cpb.sc (x := .int 0) rfl) (Cpb.sc (x := .non) rfl) fun H6 s6 qd => ?_⟩
    refine ⟨C1, crossR, .ref xq, true, rfl, rows5.mono s6, by decide, cross_ok, cross_cl, cross_nb, .inr (.inl ⟨xq, _, _, _, rfl, qd, cross_q.symm⟩), fun H7 s7 => ⟨true, true, rfl, rfl, false, rfl, iteF' ?_⟩⟩
    have pen7 := pen5.mono (s6.trans s7) (Nat.le_refl _)
    clear rows5 qd pen5 k5 rowsC pen4
    refine ⟨2, rfl, by decide, by decide, for_range (n := 2) (fun i σ H' => ∃ x3 x4 x5, σ = [some (.ref a), some (.ref p), some (.ref C1), x3, x4, x5, none] ∧ PenAt H' p c cells (20 + 200 * i)) ⟨_, _, _, rfl, pen7.more (by omega)⟩ ?_ ?_⟩
    · rintro i σ H8 hi ⟨x3, x4, x5, rfl, pen8⟩
      refine nx_go ?_
      refine asg_of (fun v H' => ∃ (ar : Addr) (rs : List Row), v = .ref ar ∧ RowsAt H' ar rs ∧ rs.length ≤ 5 ∧ (∀ r ∈ rs, r.Ok) ∧ (∀ r ∈ rs, r.c.length ≤ 1000) ∧ firstBad rs = none ∧ PenAt H' p c cells (20 + 200 * i + 102)) (fun Qz z => ?_) (fun v H9 ⟨ar, rs, ev, rows9, rl, ok, cl, nb, pen9⟩ => nx_go ?_)
      · refine ⟨_, rfl, _, rfl, ?_⟩
        dsimp only [tNil]
        refine ⟨p, c, cells, _, 6, rfl, pen8, by omega, by decide, by decide, fun kk H9 k0 k6 pen9 k9 => ⟨_, rfl, by show 4 ≤ sizeLine; decide, fun L hL => ?_⟩⟩
        have z1 := same_new (o := .lst [.int 3, .int 6, .int 12, .int 30]) hL
        refine ⟨p, c, L, cells, _, _, rfl, pen9.mono z1 (Nat.le_refl _), by omega, upd_same, (pen9.nn hL).1, by show 0 < 4; decide, by show 4 ≤ 100; decide, fun j x H10 ex pen10 k10 => ?_⟩
        obtain ⟨s, rfl, s1, s2⟩ : ∃ s : Int, x = .int s ∧ 0 < s ∧ s ≤ 30 := by
          rcases j with _ | _ | _ | _ | j
          · exact ⟨3, (Option.some.inj ex).symm, by decide, by decide⟩
          · exact ⟨6, (Option.some.inj ex).symm, by decide, by decide⟩
          · exact ⟨12, (Option.some.inj ex).symm, by decide, by decide⟩
          · exact ⟨30, (Option.some.inj ex).symm, by decide, by decide⟩
          · cases ex
        obtain ⟨kN, rfl⟩ : ∃ i : Nat, kk = i := ⟨kk.toNat, by omega⟩
        exact ⟨p, c, cells, _, kN, s, rfl, pen10, by omega, by omega, s1, by omega, fun ar gs rs H11 _ hg hr' ro rows' pen11 _ => z _ _ ⟨ar, rs, rfl, rows', by omega, ro.ok, fun r m => let ⟨g, h⟩ := ro.row m; sc_row h, ro.nobad (by omega), pen11.more (by omega)⟩⟩
      subst ev
      refine ⟨_, rfl, _, rfl, p, c, ar, cells, _, rs, rfl, pen9, by omega, rows9, by omega, ok, cl, nb, fun H10 pen10 k10 => ⟨true, rfl, iteF' ?_⟩⟩
      have rows10 := rows_kept pen9 k10 rows9
      refine ⟨_, rfl, ?_⟩
      dsimp only [tNil]
      refine ⟨ar, rs, rfl, rows10, by omega, ok, nb, fun L H11 s11 ho => nx_go ?_⟩
      have olen : (ordersOf rs).length ≤ 100000 := by
        unfold ordersOf
        rw [List.length_map]
        have h7 := parts_le rs
        exact Nat.le_trans (line_len rs (partsOf rs) _) (Nat.le_trans (Nat.pow_le_pow_left (show _ ≤ 5 by omega) _) (Nat.le_trans (Nat.pow_le_pow_right (by decide) (show _ ≤ 5 by omega)) (by decide)))
      have omem : ∀ o ∈ ordersOf rs, orderB rs (.tuple ((natsI o).map .int)) = true := fun o m => full_order ok nb ((mem_orders ok nb).mp m)
      have onone : ordersOf rs = [] → orderB rs (.tuple ((natsI (partsOf rs)).map .int)) = false := none_order ok nb
      have rows11 := rows10.mono s11
      have pen11 := pen10.mono s11 (Nat.le_refl _)
      generalize ordersOf rs = os at ho olen omem onone
      clear pen9 rows9 k10 rows10 pen10 s11
      refine if_due3 (fun σ' H' => σ' = [some (.ref a), some (.ref p), some (.ref C1), some (.int (0 + (i : Int))), some (.ref ar), some (.ref L), none] ∧ RowsAt H' ar rs ∧ OrdersAt H' L os ∧ PenAt H' p c cells (20 + 200 * i + 160)) (fun Dn z => ?_) (fun σ' H12 ⟨eσ, rows12, ho12, pen12⟩ => ?_)
      · refine ifs_go ⟨_, rfl, Nat.zero_le _, fun t ht => ?_⟩
        have s12 := same_new (o := .lst []) ht
        obtain ⟨ts, hL, po⟩ := id ho
        have po12 : Paired (fun t o => TupD _ t (nats o)) ts os := Paired.mapP po fun t o z => z.mono fun _ e => s12 _ _ e
        have rows12 := rows11.mono s12
        have pen12 := pen11.mono s12 (Nat.le_refl _)
        have ho12 : OrdersAt _ L os := ⟨ts, s12 _ _ hL, po12⟩
        refine ⟨_, _, ords_dp (s12 _ _ hL) po12, Dp.lst (SqL.of upd_same) .nil, ords_shaped _, by decide +kernel, !os.isEmpty, by rw [eqv_ords], ?_⟩
        cases hE : os.isEmpty with
        | true => exact iteF' (iteF' (z _ _ ⟨rfl, rows12, ho12, pen12.more (by omega)⟩))
        | false =>
          have tl : ts.length = os.length := Paired.length po
          have o0 : 0 < os.length := by
            cases os with
            | nil => cases hE
            | cons _ _ => exact Nat.succ_pos _
          have nL : L ≠ p := fun z => by
            obtain ⟨x, g, hpp, _⟩ := pen11.ex
            rw [z, hpp] at hL
            have e := HO.lst.inj (Option.some.inj hL)
            rcases ts with _ | ⟨_, _ | ⟨_, _⟩⟩ <;> cases e
          refine iteT' ⟨_, rfl, _, rfl, _, rfl, _, rfl, ?_⟩
          dsimp only [tNil]
          refine ⟨p, c, L, cells, _, _, rfl, pen12, by omega, s12 _ _ hL, nL, by rw [List.length_map]; omega, by rw [List.length_map]; omega, fun j x H13 ex pen13 k13 => ?_⟩
          obtain ⟨hj, ex⟩ := List.getElem?_eq_some_iff.mp ex
          rw [List.length_map] at hj
          have hj2 : j < os.length := by omega
          have ex : x = .ref ts[j] := by rw [← ex, List.getElem_map]
          subst ex
          have tk := paired_at po12 hj hj2
          have mo := List.getElem_mem hj2
          have full := omem _ mo
          refine ⟨p, c, ar, ts[j], cells, _, rs, os[j], rfl, pen13, by omega, rows_kept pen12 k13 rows12, by omega, ok, cl, nb, sqT_kept pen12 k13 tk.sq, full, fun H14 pen14 k14 => ⟨true, rfl, iteF' (z _ _ ⟨rfl, rows_kept pen13 k14 (rows_kept pen12 k13 rows12), ords_kept pen13 k14 (ords_kept pen12 k13 ho12), pen14.more (by omega)⟩)⟩⟩
      · subst eσ
        refine ifs_go ⟨_, rfl, Nat.zero_le _, fun t ht => ?_⟩
        have s13 := same_new (o := .lst []) ht
        obtain ⟨ts, hL, po⟩ := id ho12
        have po13 : Paired (fun t o => TupD _ t (nats o)) ts os := Paired.mapP po fun t o z => z.mono fun _ e => s13 _ _ e
        have rows13 := rows12.mono s13
        have pen13 := pen12.mono s13 (Nat.le_refl _)
        refine ⟨_, _, ords_dp (s13 _ _ hL) po13, Dp.lst (SqL.of upd_same) .nil, ords_shaped _, by decide +kernel, ?_⟩
        rw [eqv_ords]
        cases hE : os.isEmpty with
        | false => exact ⟨false, rfl, iteF' (iteF' ⟨_, _, _, rfl, pen13.more (by omega)⟩)⟩
        | true =>
          have no := onone (List.isEmpty_iff.mp hE)
          refine ⟨true, rfl, iteT' ⟨_, rfl, _, rfl, ?_⟩⟩
          dsimp only [tNil]
          refine ⟨ar, rs, rfl, rows13, by omega, ok, nb, fun D H14 s14 hD => ⟨D, _, rfl, .inl ⟨SqL.of hD, fun l hl => ?_⟩⟩⟩
          have s15 := same_new (o := .tup (nats (partsOf rs))) hl
          have okn : ∀ x ∈ nats (partsOf rs), okV x = true := fun x m => by
            unfold nats at m
            obtain ⟨y, _, rfl⟩ := List.mem_map.mp m
            rfl
          have scn : (nats (partsOf rs)).map scX = (natsI (partsOf rs)).map .int := by
            rw [nats_ints, List.map_map]
            rfl
          have pl2 : (nats (partsOf rs)).length ≤ 2000 := by
            unfold nats
            rw [List.length_map]
            have := parts_le rs
            omega
          have bb : Bent K (upd H14 l (.tup (nats (partsOf rs)))) (.ref l) (.tuple ((natsI (partsOf rs)).map .int)) := by
            have := Bent.tup (K := K) (H := upd H14 l (.tup (nats (partsOf rs)))) (SqT.of upd_same) okn pl2
            rw [scn] at this
            exact this
          refine fun xq dq hxq hdq neq => ord_go hxq hdq neq bb.cp fun H15 s16 od => ?_
          exact ⟨ar, rs, .ref xq, false, rfl, (rows13.mono (s14.trans (s15.trans s16))), by omega, ok, cl, nb, .inl ⟨xq, _, rfl, od, bb.ln, no.symm⟩, fun H16 s17 => ⟨false, false, rfl, rfl, false, rfl, iteF' ⟨_, _, _, rfl, pen13.mono (s14.trans (s15.trans (s16.trans s17))) (by omega)⟩⟩⟩
    · rintro σ H8 ⟨x3, x4, x5, rfl, pen8⟩
      refine ⟨_, rfl, _, rfl, by show 4 ≤ sizeLine; decide, fun LA1 hLA1 => ?_⟩
      have z1 := same_new (o := .lst [.int 4, .int 9, .int 30, .int 120]) hLA1
      refine ⟨p, c, LA1, cells, _, _, rfl, pen8.mono z1 (Nat.le_refl _), by omega, upd_same, (pen8.nn hLA1).1, by show 0 < 4; decide, by show 4 ≤ 100; decide, fun j1 x1 H2 ex1 pen2 kp2 => ⟨_, rfl, by show 3 ≤ sizeLine; decide, fun LB1 hLB1 => ?_⟩⟩
      have z2 := same_new (o := .lst [.int 1, .int 8, .int 60]) hLB1
      refine ⟨p, c, LB1, cells, _, _, rfl, pen2.mono z2 (Nat.le_refl _), by omega, upd_same, (pen2.nn hLB1).1, by show 0 < 3; decide, by show 3 ≤ 100; decide, fun j2 x2 H3 ex2 pen3 kp3 => ?_⟩
      obtain ⟨m, rfl, m6, m1000⟩ : ∃ m : Nat, x1 = .int m ∧ 4 ≤ m ∧ m ≤ 120 := by
        rcases j1 with _ | _ | _ | _ | j1
        · exact ⟨4, (Option.some.inj ex1).symm, by decide, by decide⟩
        · exact ⟨9, (Option.some.inj ex1).symm, by decide, by decide⟩
        · exact ⟨30, (Option.some.inj ex1).symm, by decide, by decide⟩
        · exact ⟨120, (Option.some.inj ex1).symm, by decide, by decide⟩
        · cases ex1
      obtain ⟨sd, rfl, sd1, sd2⟩ : ∃ sd : Int, x2 = .int sd ∧ 1 ≤ sd ∧ sd ≤ 1000 := by
        rcases j2 with _ | _ | _ | j2
        · exact ⟨1, (Option.some.inj ex2).symm, by decide, by decide⟩
        · exact ⟨8, (Option.some.inj ex2).symm, by decide, by decide⟩
        · exact ⟨60, (Option.some.inj ex2).symm, by decide, by decide⟩
        · cases ex2
      dsimp only [tNil]
      clear z1 z2 hLA1 hLB1 ex1 ex2 pen2 kp2 kp3
      refine ⟨p, c, cells, _, m, sd, rfl, pen3, by omega, by omega, by omega, sd1, sd2, fun t ar o rs pl H4 na pen4 kp4 ht rows ho ld lm => ⟨t, _, rfl, SqT.of ht, rfl, _, _, rfl, _, _, rfl, rfl, ?_⟩⟩
      have hl' : rs.length ≤ 1000 := by omega
      have ok := ld.ok
      have nb := ld.nb
      have cl : ∀ r ∈ rs, r.c.length ≤ 1000 := fun r mr => by
        obtain ⟨k, hk, rfl⟩ := List.mem_iff_getElem.mp mr
        have := (ld.row (List.getElem?_eq_getElem hk)).1
        rw [this]
        decide +kernel
      have en : ∀ r ∈ rs, r.e ≠ none := fun r mr => by
        obtain ⟨k, hk, rfl⟩ := List.mem_iff_getElem.mp mr
        obtain ⟨_, _, ⟨e, he, _⟩, _⟩ := ld.row (List.getElem?_eq_getElem hk)
        rw [he]
        exact fun z => nomatch z
      have full : orderB rs (.tuple ((natsI pl).map .int)) = true := full_order ok nb ld.full
      refine ⟨_, rfl, _, rfl, _, rfl, p, c, ar, o, cells, _, rs, pl, rfl, pen4, by omega, rows, hl', ok, cl, nb, SqT.of ho, full, fun H5 pen5 k5 => ⟨true, rfl, iteF' ?_⟩⟩
      have rows5 := rows_kept pen4 k5 rows
      refine ⟨_, rfl, _, rfl, p, c, ar, cells, _, rs, rfl, pen5, by omega, rows5, by omega, hl', ok, en, cl, nb, fun H6 pen6 k6 => ⟨true, rfl, iteF' ?_⟩⟩
      refine ⟨_, rfl, ?_⟩
      dsimp only [tNil]
      refine ⟨p, c, cells, _, rfl, pen6, by omega, fun H7 pen7 k7 => ⟨true, rfl, iteF' ?_⟩⟩
      refine ⟨_, rfl, p, c, cells, _, 6, rfl, pen7, by omega, by decide, by decide, fun v H9 v0 v6 pen9 k9 => ⟨v, 0, rfl, rfl, decide (0 < v), rfl, ?_⟩⟩
      cases decide (0 < v) with
      | true => exact iteT' (q H9)
      | false => exact iteF' ⟨_, rfl, p, c, cells, _, rfl, pen9, by omega, fun H10 => q H10⟩
end
end K37
end

section
set_option Elab.async false
set_option linter.all false
set_option maxRecDepth 100000
set_option maxHeartbeats 4000000
/-! joined -/
namespace K37
open PySem PySem.Spec PyProof.Rows L2 KZ
abbrev args1 (x : Str) (p0 p1 : Pos) : Arguments := ⟨[], [⟨"self", none, p0⟩, ⟨x, none, p1⟩], none, [], [], none, []⟩
abbrev args2 (x y : Str) (p0 p1 p2 : Pos) : Arguments := ⟨[], [⟨"self", none, p0⟩, ⟨x, none, p1⟩, ⟨y, none, p2⟩], none, [], [], none, []⟩
section
variable {nm q : Str} {p0 p1 p2 : Pos} {body : List Stmt} {scope : Scope} {kV doc pm cdv ct s v u : Value} {an : Option Addr}
theorem b1k_part : bindArgs (PySem.W.fnOf nm q (args1 "part" p0 p1) body scope .none kV doc pm an cdv ct) ⟨[s], [("part", v)]⟩ = (pure [(("self" : Str), s), (("part" : Str), v)] : Sem (List (Str × Value))) := rfl
theorem b1p_part : bindArgs (PySem.W.fnOf nm q (args1 "part" p0 p1) body scope .none kV doc pm an cdv ct) ⟨[s, v], []⟩ = (pure [(("self" : Str), s), (("part" : Str), v)] : Sem (List (Str × Value))) := rfl
theorem b2k_what : bindArgs (PySem.W.fnOf nm q (args2 "what" "most" p0 p1 p2) body scope .none kV doc pm an cdv ct) ⟨[s], [("most", u), ("what", v)]⟩ = (pure [(("self" : Str), s), (("what" : Str), v), (("most" : Str), u)] : Sem (List (Str × Value))) := rfl
theorem b2m_what : bindArgs (PySem.W.fnOf nm q (args2 "what" "most" p0 p1 p2) body scope .none kV doc pm an cdv ct) ⟨[s, v], [("most", u)]⟩ = (pure [(("self" : Str), s), (("what" : Str), v), (("most" : Str), u)] : Sem (List (Str × Value))) := rfl
theorem b2p_what : bindArgs (PySem.W.fnOf nm q (args2 "what" "most" p0 p1 p2) body scope .none kV doc pm an cdv ct) ⟨[s, v, u], []⟩ = (pure [(("self" : Str), s), (("what" : Str), v), (("most" : Str), u)] : Sem (List (Str × Value))) := rfl
end
theorem errI_ok {K : PySem.W.Frag} {mg : Str → Option Value} {nm : Str} {C : Addr} {fs : List Str} (h : errI K C fs = true) (g : mg nm = some (.ref C)) : ErrC K mg nm C (He.ma K C "__init__") fs := by
  obtain ⟨h0, h⟩ := He.ba h
  obtain ⟨h1, h⟩ := He.ba h
  obtain ⟨h2, h⟩ := He.ba h
  obtain ⟨h3, h⟩ := He.ba h
  obtain ⟨h4, h⟩ := He.ba h
  obtain ⟨h5, h⟩ := He.ba h
  obtain ⟨h6, h7⟩ := He.ba h
  have T := errB_ok h0
  exact ⟨⟨oexB_ok h1, He.eqO_ok h2, T.be, of_decide_eq_true h3, h4⟩, T, He.eqO_ok h5, of_decide_eq_true h6, fun f hf => He.eqO_ok (List.all_eq_true.mp h7 f hf), g⟩
section
variable {P : Program} {w : World} {K : PySem.W.Frag} {mg : Str → Option Value} {base : Heap} {fC : Addr} {dC fd : FuncData}
theorem mk_BadAsk (h : errI K (He.ga K "BadAsk") ["part"] = true) (g : mg "BadAsk" = some (.ref (He.ga K "BadAsk"))) (F : Fun K "__init__" "BadAsk.__init__" (mem 9 0) (He.ma K (He.ga K "BadAsk") "__init__") fd) (T : B0 mg) (gC : mg "copied" = some (.ref fC)) (FC : Fun K "copied" "copied" sCopied fC dC) (bC : Binds K dC ["value"] []) :
    Mk1 P w K mg base "BadAsk" (He.ga K "BadAsk") "part" "part" := by
  have E := errI_ok h g
  refine ⟨_, fd, E, ok_init1 (st := mem 9 0) rfl ⟨rfl, rfl, rfl, by decide +kernel, rfl, by decide +kernel, by decide +kernel⟩ rfl rfl rfl (by decide) (by decide) F E.ox (E.no _ List.mem_cons_self) T gC FC bC, ?_, ?_⟩
  · exact F.binds (ps := ["self", "part"]) fun _ _ _ _ _ _ us hl => match us, hl with | [_, _], _ => b1p_part
  · exact kb_self F (fun _ _ _ _ _ _ _ _ => b1k_part) (fun _ _ _ _ _ _ _ _ => b1p_part)
theorem mk_TooMany (h : errI K (He.ga K "TooMany") ["what", "most"] = true) (g : mg "TooMany" = some (.ref (He.ga K "TooMany"))) (F : Fun K "__init__" "TooMany.__init__" (mem 10 0) (He.ma K (He.ga K "TooMany") "__init__") fd) (T : B0 mg) (gC : mg "copied" = some (.ref fC)) (FC : Fun K "copied" "copied" sCopied fC dC) (bC : Binds K dC ["value"] []) :
    Mk2 P w K mg base "TooMany" (He.ga K "TooMany") "what" "most" "what" "most" := by
  have E := errI_ok h g
  refine ⟨_, fd, E, ok_init2 (st := mem 10 0) rfl ⟨rfl, rfl, rfl, by decide +kernel, rfl, by decide +kernel, by decide +kernel⟩ rfl rfl rfl rfl (by decide) (by decide) (by decide) (by decide) F E.ox (E.no _ List.mem_cons_self) (E.no _ (List.mem_cons_of_mem _ List.mem_cons_self)) T gC FC bC, ?_, ?_⟩
  · exact F.binds (ps := ["self", "what", "most"]) fun _ _ _ _ _ _ us hl => match us, hl with | [_, _, _], _ => b2p_what
  · exact kb_self2 F (fun _ _ _ _ _ _ _ _ _ => b2k_what) (fun _ _ _ _ _ _ _ _ _ => b2m_what) (fun _ _ _ _ _ _ _ _ _ => b2p_what)
theorem vals_reverse {vs : List V} {us : List Value} (h : Vals vs us) : Vals vs.reverse us.reverse := by
  induction h with
  | nil => exact .nil
  | cons a _ ih =>
    rw [List.reverse_cons, List.reverse_cons]
    exact ih.append (.cons a .nil)
theorem init_f {f C cB fK : Addr} {dK : FuncData} (F : FunD K "__init__" "Ask.__init__" (defArgs sInit) (defBody sInit) (defScope sInit) [.non, .non] [] f fd) (M : Mk K C f) (G : FnOk P w K mg base (L2.CX P w) 8 f fd psI (spInit K C cB)) : InitF P w K mg base C cB := by
  refine ⟨f, fd, M, G, ?_, ?_, ?_, ?_, ?_⟩
  · obtain ⟨ds, v, b⟩ := F.binds1 (ps := psI) 6 2 (by decide) rfl fun T kV doc pm an cdv ct us its h1 h2 => match us, its, h1, h2 with
      | [_, _, _, _, _, _], [_, _], _, _ => ⟨_, rfl, rfl⟩
    cases v
    exact b
  · exact F.binds1 (ps := psI) 5 1 (by decide) rfl fun T kV doc pm an cdv ct us its h1 h2 => match us, its, h1, h2 with
      | [_, _, _, _, _], [_, _], _, _ => ⟨_, rfl, rfl⟩
  · exact F.binds1 (ps := psI) 4 0 (by decide) rfl fun T kV doc pm an cdv ct us its h1 h2 => match us, its, h1, h2 with
      | [_, _, _, _], [_, _], _, _ => ⟨_, rfl, rfl⟩
  · obtain ⟨its, k⟩ := F.kbindsD (ps := psI) 1 ["told", "ended", "begun", "word", "client"] (fun us _ ws => us ++ ws.reverse) (by decide) (fun a _ b => a.append (vals_reverse b)) fun T kV doc pm an cdv ct us its ws h1 h2 h3 => match us, its, ws, h1, h2, h3 with
      | [_], [_, _], [_, _, _, _, _], _, _, _ => ⟨_, rfl, rfl⟩
    exact ⟨_, k⟩
  · obtain ⟨its, k⟩ := F.kbindsD (ps := psI) 4 ["ended", "told"] (fun us _ ws => us ++ ws) (by decide) (fun a _ b => a.append b) fun T kV doc pm an cdv ct us its ws h1 h2 h3 => match us, its, ws, h1, h2, h3 with
      | [_, _, _, _], [_, _], [_, _], _, _, _ => ⟨_, rfl, rfl⟩
    exact ⟨_, k⟩
theorem zones_x {C cB cT f : Addr} (G : FnOk P w K mg base (L2.CX P w) 8 f fd ["asks"] (spZones K C cB cT)) : FnOk P w K mg base CX0 8 f fd ["asks"] (spZonesX K C) :=
  (FnOk.x0 G).imp fun vs H Q E ⟨a, rs, e, hist, hl, ok, nb, q⟩ => ⟨.ref a, e, .inr (.inr ⟨a, rs, rfl, hist, by omega, ok, fun z => absurd z (by omega), (fun _ i hi => by rw [nb] at hi; cases hi), fun _ _ => q⟩)⟩
theorem ahead_x {C cB f : Addr} (G : FnOk P w K mg base (L2.CX P w) 7 f fd ["self", "other"] (spAhead K C cB)) : FnOk P w K mg base CX0 7 f fd ["self", "other"] (spAheadX C) :=
  (FnOk.x0 G).imp fun vs H Q E ⟨a, r, b, s, e, ha, hb, q⟩ => ⟨a, r, .ref b, e, ha, .inl ⟨b, s, rfl, hb, q⟩⟩
theorem show_x {C cB cT CO CQ f : Addr} (G : FnOk P w K mg base (L2.CX P w) 10 f fd ["asks", "value"] (spShow K C cB cT CO CQ)) : FnOk P w K mg base CX0 10 f fd ["asks", "value"] (spShowX K C CO CQ) :=
  (FnOk.x0 G).imp fun vs H Q E ⟨a, rs, y, b, e, hist, hl, ok, nb, ver, q⟩ => ⟨.ref a, y, e, .inr (.inr ⟨a, rs, rfl, hist, by omega, ok, fun z => absurd z (by omega), (fun _ i hi => by rw [nb] at hi; cases hi), fun _ _ => ⟨b, ver, q⟩⟩)⟩
theorem vals_swap2 {vs zs : List V} {us ws : List Value} (h1 : Vals vs us) (h2 : Vals zs ws) : Vals (swap2 vs zs) (swap2 us ws) := by
  cases h1 with
  | cons _ _ => exact .nil
  | nil =>
    cases h2 with
    | nil => exact .nil
    | cons a h2 =>
      cases h2 with
      | nil => exact .nil
      | cons b h2 =>
        cases h2 with
        | nil => exact .cons b (.cons a .nil)
        | cons _ _ => exact .nil
theorem kb_swap2 {x qual p q : Str} {st : Stmt} {f : Addr} (F : Fun K x qual st f fd) (h0 : ∀ (kV doc pm : Value) (an : Option Addr) (cdv ct s v : Value), bindArgs (FN x qual st kV doc pm an cdv ct) ⟨[], [(q, v), (p, s)]⟩ = pure [(p, s), (q, v)]) : KBinds K fd [p, q] [q, p] swap2 swap2 := by
  obtain ⟨oc, od, kV, doc, pm, an, cdv, ct, osl, rfl, _⟩ := F.ex
  refine ⟨fun s us ws _ hl => ?_, fun a b => vals_swap2 a b⟩
  match us, ws, hl with
  | [], [a, b], _ => exact .of_eq (h0 kV doc pm an cdv ct b a)
end
theorem joined {w : World} {mg : Str → Option Value} {fa : Addr} {h : Heap} {K : PySem.W.Frag} (X : K.In h) (G : h.Ns mainGlobals mg) (hfa : mg "law" = some (.ref fa)) (c : He.SaysX fas fns [] tfs exC w h K) :
    LawG PySem.Challenge.rw_stayopen_k37_orders_and_quarrels_bent w K 14 63 "script" mg fa h := by
  have cD : He.SaysD fas fns K := congrArg Prod.fst c.t
  obtain ⟨eB, hx⟩ := He.ba c.more
  obtain ⟨eT, hx⟩ := He.ba hx
  obtain ⟨hk_, hx⟩ := He.ba hx
  obtain ⟨hA, hx⟩ := He.ba hx
  obtain ⟨hO, hQ⟩ := He.ba hx
  obtain ⟨hA1, hA⟩ := He.ba hA
  obtain ⟨hA2, hA⟩ := He.ba hA
  obtain ⟨hA3, hA4⟩ := He.ba hA
  obtain ⟨hO1, hO⟩ := He.ba hO
  obtain ⟨hO2, hO⟩ := He.ba hO
  obtain ⟨hO3, hO4⟩ := He.ba hO
  obtain ⟨hQ1, hQ⟩ := He.ba hQ
  obtain ⟨hQ2, hQ⟩ := He.ba hQ
  obtain ⟨hQ3, hQ4⟩ := He.ba hQ
  have kit : ∀ (i : Nat) x, (kits K)[i]? = some x → PySem.W.kitOne K x.1 x.2.1 = some x.2.2 := fun i x e => of_decide_eq_true (List.all_eq_true.mp hk_ x (List.mem_of_getElem? e))
  have g_is_integer := He.glo_ok X G (cD.fact 0 (f := .glo "is_integer") rfl)
  have g_is_within := He.glo_ok X G (cD.fact 1 (f := .glo "is_within") rfl)
  have g_is_name := He.glo_ok X G (cD.fact 2 (f := .glo "is_name") rfl)
  have g_copied := He.glo_ok X G (cD.fact 3 (f := .glo "copied") rfl)
  have g_check_ask := He.glo_ok X G (cD.fact 4 (f := .glo "check_ask") rfl)
  have g_is_count := He.glo_ok X G (cD.fact 5 (f := .glo "is_count") rfl)
  have g_need_asks := He.glo_ok X G (cD.fact 6 (f := .glo "need_asks") rfl)
  have g_told_lots := He.glo_ok X G (cD.fact 7 (f := .glo "told_lots") rfl)
  have g_parts_of := He.glo_ok X G (cD.fact 8 (f := .glo "parts_of") rfl)
  have g_zones := He.glo_ok X G (cD.fact 9 (f := .glo "zones") rfl)
  have g_is_same := He.glo_ok X G (cD.fact 10 (f := .glo "is_same") rfl)
  have g_shows_order := He.glo_ok X G (cD.fact 11 (f := .glo "shows_order") rfl)
  have g_are_parts := He.glo_ok X G (cD.fact 12 (f := .glo "are_parts") rfl)
  have g_are_in_order := He.glo_ok X G (cD.fact 13 (f := .glo "are_in_order") rfl)
  have g_are_answers_right := He.glo_ok X G (cD.fact 14 (f := .glo "are_answers_right") rfl)
  have g_is_along_time := He.glo_ok X G (cD.fact 15 (f := .glo "is_along_time") rfl)
  have g_is_future := He.glo_ok X G (cD.fact 16 (f := .glo "is_future") rfl)
  have g_are_lots_at_odds := He.glo_ok X G (cD.fact 17 (f := .glo "are_lots_at_odds") rfl)
  have g__law_well := He.glo_ok X G (cD.fact 18 (f := .glo "_law_well") rfl)
  have g__law_draw := He.glo_ok X G (cD.fact 19 (f := .glo "_law_draw") rfl)
  have g__law_one := He.glo_ok X G (cD.fact 20 (f := .glo "_law_one") rfl)
  have g__law_rows := He.glo_ok X G (cD.fact 21 (f := .glo "_law_rows") rfl)
  have g__law_made := He.glo_ok X G (cD.fact 22 (f := .glo "_law_made") rfl)
  have g__law_parts := He.glo_ok X G (cD.fact 23 (f := .glo "_law_parts") rfl)
  have g__law_ahead := He.glo_ok X G (cD.fact 24 (f := .glo "_law_ahead") rfl)
  have g__law_orders := He.glo_ok X G (cD.fact 25 (f := .glo "_law_orders") rfl)
  have g__law_is_order := He.glo_ok X G (cD.fact 26 (f := .glo "_law_is_order") rfl)
  have g__law_zones := He.glo_ok X G (cD.fact 27 (f := .glo "_law_zones") rfl)
  have g__law_cross := He.glo_ok X G (cD.fact 28 (f := .glo "_law_cross") rfl)
  have g__law_crossing := He.glo_ok X G (cD.fact 29 (f := .glo "_law_crossing") rfl)
  have g__law_is_quarrel := He.glo_ok X G (cD.fact 30 (f := .glo "_law_is_quarrel") rfl)
  have g__law_led := He.glo_ok X G (cD.fact 31 (f := .glo "_law_led") rfl)
  have g__law_bent := He.glo_ok X G (cD.fact 32 (f := .glo "_law_bent") rfl)
  have g__law_looked := He.glo_ok X G (cD.fact 33 (f := .glo "_law_looked") rfl)
  have g__law_order_right := He.glo_ok X G (cD.fact 34 (f := .glo "_law_order_right") rfl)
  have g__law_quarrels_right := He.glo_ok X G (cD.fact 35 (f := .glo "_law_quarrels_right") rfl)
  have g__law_led_quarrels_right := He.glo_ok X G (cD.fact 36 (f := .glo "_law_led_quarrels_right") rfl)
  have g__law_great_right := He.glo_ok X G (cD.fact 37 (f := .glo "_law_great_right") rfl)
  have g__law_refused_right := He.glo_ok X G (cD.fact 38 (f := .glo "_law_refused_right") rfl)
  have g_law := He.glo_ok X G (cD.fact 39 (f := .glo "law") rfl)
  have g_OpenError := He.glo_ok X G (cD.fact 40 (f := .glo "OpenError") rfl)
  have g_BadAsk := He.glo_ok X G (cD.fact 41 (f := .glo "BadAsk") rfl)
  have g_TooMany := He.glo_ok X G (cD.fact 42 (f := .glo "TooMany") rfl)
  have g_Ask := He.glo_ok X G (cD.fact 43 (f := .glo "Ask") rfl)
  have g_Verdict := He.glo_ok X G (cD.fact 44 (f := .glo "Verdict") rfl)
  have g_Order := He.glo_ok X G (cD.fact 45 (f := .glo "Order") rfl)
  have g_Quarrel := He.glo_ok X G (cD.fact 46 (f := .glo "Quarrel") rfl)
  have z_isinstance := He.free_ok X G (cD.fact 47 (f := .free "isinstance") rfl)
  have z_int := He.free_ok X G (cD.fact 48 (f := .free "int") rfl)
  have z_bool := He.free_ok X G (cD.fact 49 (f := .free "bool") rfl)
  have z_str := He.free_ok X G (cD.fact 50 (f := .free "str") rfl)
  have z_len := He.free_ok X G (cD.fact 51 (f := .free "len") rfl)
  have z_all := He.free_ok X G (cD.fact 52 (f := .free "all") rfl)
  have z_list := He.free_ok X G (cD.fact 53 (f := .free "list") rfl)
  have z_tuple := He.free_ok X G (cD.fact 54 (f := .free "tuple") rfl)
  have z_dict := He.free_ok X G (cD.fact 55 (f := .free "dict") rfl)
  have z_range := He.free_ok X G (cD.fact 56 (f := .free "range") rfl)
  have z_max := He.free_ok X G (cD.fact 57 (f := .free "max") rfl)
  have z_min := He.free_ok X G (cD.fact 58 (f := .free "min") rfl)
  have z_sorted := He.free_ok X G (cD.fact 59 (f := .free "sorted") rfl)
  have z_repr := He.free_ok X G (cD.fact 60 (f := .free "repr") rfl)
  have z_abs := He.free_ok X G (cD.fact 61 (f := .free "abs") rfl)
  have z_enumerate := He.free_ok X G (cD.fact 62 (f := .free "enumerate") rfl)
  have cMost := He.int_ok X G (cD.fact 63 (f := .int "MOST_ASKS" 1000) rfl)
  have cLets := He.str_ok X G (cD.fact 64 (f := .str "LETTERS" "abcdefghijklmnopqrstuvwxyz") rfl)
  have mAsk := He.mkr_ok (cD.fact 65 (f := .mkr "Ask") rfl)
  have x_BadAsk := He.exm_ok (cD.fact 66 (f := .exm "BadAsk" "OpenError" true) rfl)
  have x_TooMany := He.exm_ok (cD.fact 67 (f := .exm "TooMany" "OpenError" true) rfl)
  have cl_Ask := He.cls_ok (cD.fact 68 (f := .cls "Ask") rfl)
  have na_Ask_client := He.noat_ok (cD.fact 69 (f := .noat "Ask" "client") rfl)
  have na_Ask_word := He.noat_ok (cD.fact 70 (f := .noat "Ask" "word") rfl)
  have na_Ask_begun := He.noat_ok (cD.fact 71 (f := .noat "Ask" "begun") rfl)
  have na_Ask_ended := He.noat_ok (cD.fact 72 (f := .noat "Ask" "ended") rfl)
  have na_Ask_told := He.noat_ok (cD.fact 73 (f := .noat "Ask" "told") rfl)
  have me_is_ahead := He.meth_ok (cD.fact 74 (f := .meth "Ask" "is_ahead") rfl)
  have mOrder := He.mkr_ok (cD.fact 75 (f := .mkr "Order") rfl)
  have mQuarrel := He.mkr_ok (cD.fact 76 (f := .mkr "Quarrel") rfl)
  have cl_Order := He.cls_ok (cD.fact 77 (f := .cls "Order") rfl)
  have cl_Quarrel := He.cls_ok (cD.fact 78 (f := .cls "Quarrel") rfl)
  have na_Order_indexes := He.noat_ok (cD.fact 79 (f := .noat "Order" "indexes") rfl)
  have na_Quarrel_word := He.noat_ok (cD.fact 80 (f := .noat "Quarrel" "word") rfl)
  have na_Quarrel_one := He.noat_ok (cD.fact 81 (f := .noat "Quarrel" "one") rfl)
  have na_Quarrel_other := He.noat_ok (cD.fact 82 (f := .noat "Quarrel" "other") rfl)
  obtain ⟨d_is_integer, F_is_integer⟩ := cD.def_ 0 rfl
  have F_is_integer : Fun K "is_integer" "is_integer" (top 2) (He.ga K "is_integer") d_is_integer := fun_of F_is_integer
  have b_is_integer := F_is_integer.binds (ps := ["value"]) fun _ _ _ _ _ _ us hl => match us, hl with | [_], _ => rfl
  obtain ⟨d_is_within, F_is_within⟩ := cD.def_ 1 rfl
  have F_is_within : Fun K "is_within" "is_within" (top 3) (He.ga K "is_within") d_is_within := fun_of F_is_within
  have b_is_within := F_is_within.binds (ps := ["value", "least", "most"]) fun _ _ _ _ _ _ us hl => match us, hl with | [_, _, _], _ => rfl
  obtain ⟨d_is_name, F_is_name⟩ := cD.def_ 2 rfl
  have F_is_name : Fun K "is_name" "is_name" (top 4) (He.ga K "is_name") d_is_name := fun_of F_is_name
  have b_is_name := F_is_name.binds (ps := ["value"]) fun _ _ _ _ _ _ us hl => match us, hl with | [_], _ => rfl
  obtain ⟨d_copied, F_copied⟩ := cD.def_ 3 rfl
  have F_copied : Fun K "copied" "copied" (top 6) (He.ga K "copied") d_copied := fun_of F_copied
  have b_copied := F_copied.binds (ps := ["value"]) fun _ _ _ _ _ _ us hl => match us, hl with | [_], _ => rfl
  obtain ⟨d_check_ask, F_check_ask⟩ := cD.def_ 4 rfl
  have F_check_ask : Fun K "check_ask" "check_ask" (top 15) (He.ga K "check_ask") d_check_ask := fun_of F_check_ask
  have b_check_ask := F_check_ask.binds (ps := ["client", "word", "begun", "ended", "told"]) fun _ _ _ _ _ _ us hl => match us, hl with | [_, _, _, _, _], _ => rfl
  obtain ⟨d_is_count, F_is_count⟩ := cD.def_ 5 rfl
  have F_is_count : Fun K "is_count" "is_count" (top 16) (He.ga K "is_count") d_is_count := fun_of F_is_count
  have b_is_count := F_is_count.binds (ps := ["value"]) fun _ _ _ _ _ _ us hl => match us, hl with | [_], _ => rfl
  obtain ⟨d_need_asks, F_need_asks⟩ := cD.def_ 6 rfl
  have F_need_asks : Fun K "need_asks" "need_asks" (top 17) (He.ga K "need_asks") d_need_asks := fun_of F_need_asks
  have b_need_asks := F_need_asks.binds (ps := ["asks"]) fun _ _ _ _ _ _ us hl => match us, hl with | [_], _ => rfl
  obtain ⟨d_told_lots, F_told_lots⟩ := cD.def_ 7 rfl
  have F_told_lots : Fun K "told_lots" "told_lots" (top 18) (He.ga K "told_lots") d_told_lots := fun_of F_told_lots
  have b_told_lots := F_told_lots.binds (ps := ["asks"]) fun _ _ _ _ _ _ us hl => match us, hl with | [_], _ => rfl
  obtain ⟨d_parts_of, F_parts_of⟩ := cD.def_ 8 rfl
  have F_parts_of : Fun K "parts_of" "parts_of" (top 19) (He.ga K "parts_of") d_parts_of := fun_of F_parts_of
  have b_parts_of := F_parts_of.binds (ps := ["asks"]) fun _ _ _ _ _ _ us hl => match us, hl with | [_], _ => rfl
  obtain ⟨d_zones, F_zones⟩ := cD.def_ 9 rfl
  have F_zones : Fun K "zones" "zones" (top 14) (He.ga K "zones") d_zones := fun_of F_zones
  have b_zones := F_zones.binds (ps := ["asks"]) fun _ _ _ _ _ _ us hl => match us, hl with | [_], _ => rfl
  obtain ⟨d_is_same, F_is_same⟩ := cD.def_ 10 rfl
  have F_is_same : Fun K "is_same" "is_same" (top 26) (He.ga K "is_same") d_is_same := fun_of F_is_same
  have b_is_same := F_is_same.binds (ps := ["value", "told"]) fun _ _ _ _ _ _ us hl => match us, hl with | [_, _], _ => rfl
  obtain ⟨d_shows_order, F_shows_order⟩ := cD.def_ 11 rfl
  have F_shows_order : Fun K "shows_order" "shows_order" (top 28) (He.ga K "shows_order") d_shows_order := fun_of F_shows_order
  have b_shows_order := F_shows_order.binds (ps := ["asks", "value"]) fun _ _ _ _ _ _ us hl => match us, hl with | [_, _], _ => rfl
  obtain ⟨d_are_parts, F_are_parts⟩ := cD.def_ 12 rfl
  have F_are_parts : Fun K "are_parts" "are_parts" (top 29) (He.ga K "are_parts") d_are_parts := fun_of F_are_parts
  have b_are_parts := F_are_parts.binds (ps := ["asks", "value"]) fun _ _ _ _ _ _ us hl => match us, hl with | [_, _], _ => rfl
  obtain ⟨d_are_in_order, F_are_in_order⟩ := cD.def_ 13 rfl
  have F_are_in_order : Fun K "are_in_order" "are_in_order" (top 30) (He.ga K "are_in_order") d_are_in_order := fun_of F_are_in_order
  have b_are_in_order := F_are_in_order.binds (ps := ["asks", "indexes"]) fun _ _ _ _ _ _ us hl => match us, hl with | [_, _], _ => rfl
  obtain ⟨d_are_answers_right, F_are_answers_right⟩ := cD.def_ 14 rfl
  have F_are_answers_right : Fun K "are_answers_right" "are_answers_right" (top 31) (He.ga K "are_answers_right") d_are_answers_right := fun_of F_are_answers_right
  have b_are_answers_right := F_are_answers_right.binds (ps := ["asks", "indexes"]) fun _ _ _ _ _ _ us hl => match us, hl with | [_, _], _ => rfl
  obtain ⟨d_is_along_time, F_is_along_time⟩ := cD.def_ 15 rfl
  have F_is_along_time : Fun K "is_along_time" "is_along_time" (top 32) (He.ga K "is_along_time") d_is_along_time := fun_of F_is_along_time
  have b_is_along_time := F_is_along_time.binds (ps := ["asks", "indexes"]) fun _ _ _ _ _ _ us hl => match us, hl with | [_, _], _ => rfl
  obtain ⟨d_is_future, F_is_future⟩ := cD.def_ 16 rfl
  have F_is_future : Fun K "is_future" "is_future" (top 33) (He.ga K "is_future") d_is_future := fun_of F_is_future
  have b_is_future := F_is_future.binds (ps := ["asks", "one", "other"]) fun _ _ _ _ _ _ us hl => match us, hl with | [_, _, _], _ => rfl
  obtain ⟨d_are_lots_at_odds, F_are_lots_at_odds⟩ := cD.def_ 17 rfl
  have F_are_lots_at_odds : Fun K "are_lots_at_odds" "are_lots_at_odds" (top 34) (He.ga K "are_lots_at_odds") d_are_lots_at_odds := fun_of F_are_lots_at_odds
  have b_are_lots_at_odds := F_are_lots_at_odds.binds (ps := ["asks", "one", "other"]) fun _ _ _ _ _ _ us hl => match us, hl with | [_, _, _], _ => rfl
  obtain ⟨d_l_well, F_l_well⟩ := cD.def_ 18 rfl
  have F_l_well : Fun K "_law_well" "_law_well" (top 36) (He.ga K "_law_well") d_l_well := fun_of F_l_well
  have b_l_well := F_l_well.binds (ps := ["script"]) fun _ _ _ _ _ _ us hl => match us, hl with | [_], _ => rfl
  obtain ⟨d_l_draw, F_l_draw⟩ := cD.def_ 19 rfl
  have F_l_draw : Fun K "_law_draw" "_law_draw" (top 37) (He.ga K "_law_draw") d_l_draw := fun_of F_l_draw
  have b_l_draw := F_l_draw.binds (ps := ["well", "many"]) fun _ _ _ _ _ _ us hl => match us, hl with | [_, _], _ => rfl
  obtain ⟨d_l_one, F_l_one⟩ := cD.def_ 20 rfl
  have F_l_one : Fun K "_law_one" "_law_one" (top 38) (He.ga K "_law_one") d_l_one := fun_of F_l_one
  have b_l_one := F_l_one.binds (ps := ["well", "some"]) fun _ _ _ _ _ _ us hl => match us, hl with | [_, _], _ => rfl
  obtain ⟨d_l_rows, F_l_rows⟩ := cD.def_ 21 rfl
  have F_l_rows : Fun K "_law_rows" "_law_rows" (top 39) (He.ga K "_law_rows") d_l_rows := fun_of F_l_rows
  have b_l_rows := F_l_rows.binds (ps := ["well", "many", "span"]) fun _ _ _ _ _ _ us hl => match us, hl with | [_, _, _], _ => rfl
  obtain ⟨d_l_made, F_l_made⟩ := cD.def_ 22 rfl
  have F_l_made : Fun K "_law_made" "_law_made" (top 40) (He.ga K "_law_made") d_l_made := fun_of F_l_made
  have b_l_made := F_l_made.binds (ps := ["row"]) fun _ _ _ _ _ _ us hl => match us, hl with | [_], _ => rfl
  obtain ⟨d_l_parts, F_l_parts⟩ := cD.def_ 23 rfl
  have F_l_parts : Fun K "_law_parts" "_law_parts" (top 41) (He.ga K "_law_parts") d_l_parts := fun_of F_l_parts
  have b_l_parts := F_l_parts.binds (ps := ["rows"]) fun _ _ _ _ _ _ us hl => match us, hl with | [_], _ => rfl
  obtain ⟨d_l_ahead, F_l_ahead⟩ := cD.def_ 24 rfl
  have F_l_ahead : Fun K "_law_ahead" "_law_ahead" (top 42) (He.ga K "_law_ahead") d_l_ahead := fun_of F_l_ahead
  have b_l_ahead := F_l_ahead.binds (ps := ["one", "other"]) fun _ _ _ _ _ _ us hl => match us, hl with | [_, _], _ => rfl
  obtain ⟨d_l_orders, F_l_orders⟩ := cD.def_ 25 rfl
  have F_l_orders : Fun K "_law_orders" "_law_orders" (top 43) (He.ga K "_law_orders") d_l_orders := fun_of F_l_orders
  have b_l_orders := F_l_orders.binds (ps := ["rows"]) fun _ _ _ _ _ _ us hl => match us, hl with | [_], _ => rfl
  obtain ⟨d_l_is_order, F_l_is_order⟩ := cD.def_ 26 rfl
  have F_l_is_order : Fun K "_law_is_order" "_law_is_order" (top 44) (He.ga K "_law_is_order") d_l_is_order := fun_of F_l_is_order
  have b_l_is_order := F_l_is_order.binds (ps := ["rows", "indexes"]) fun _ _ _ _ _ _ us hl => match us, hl with | [_, _], _ => rfl
  obtain ⟨d_l_zones, F_l_zones⟩ := cD.def_ 27 rfl
  have F_l_zones : Fun K "_law_zones" "_law_zones" (top 45) (He.ga K "_law_zones") d_l_zones := fun_of F_l_zones
  have b_l_zones := F_l_zones.binds (ps := ["rows"]) fun _ _ _ _ _ _ us hl => match us, hl with | [_], _ => rfl
  obtain ⟨d_l_cross, F_l_cross⟩ := cD.def_ 28 rfl
  have F_l_cross : Fun K "_law_cross" "_law_cross" (top 46) (He.ga K "_law_cross") d_l_cross := fun_of F_l_cross
  have b_l_cross := F_l_cross.binds (ps := ["here", "there"]) fun _ _ _ _ _ _ us hl => match us, hl with | [_, _], _ => rfl
  obtain ⟨d_l_crossing, F_l_crossing⟩ := cD.def_ 29 rfl
  have F_l_crossing : Fun K "_law_crossing" "_law_crossing" (top 47) (He.ga K "_law_crossing") d_l_crossing := fun_of F_l_crossing
  have b_l_crossing := F_l_crossing.binds (ps := ["rows", "one", "other"]) fun _ _ _ _ _ _ us hl => match us, hl with | [_, _, _], _ => rfl
  obtain ⟨d_l_is_quarrel, F_l_is_quarrel⟩ := cD.def_ 30 rfl
  have F_l_is_quarrel : Fun K "_law_is_quarrel" "_law_is_quarrel" (top 48) (He.ga K "_law_is_quarrel") d_l_is_quarrel := fun_of F_l_is_quarrel
  have b_l_is_quarrel := F_l_is_quarrel.binds (ps := ["rows", "word", "one", "other"]) fun _ _ _ _ _ _ us hl => match us, hl with | [_, _, _, _], _ => rfl
  obtain ⟨d_l_led, F_l_led⟩ := cD.def_ 31 rfl
  have F_l_led : Fun K "_law_led" "_law_led" (top 49) (He.ga K "_law_led") d_l_led := fun_of F_l_led
  have b_l_led := F_l_led.binds (ps := ["well", "many", "spread"]) fun _ _ _ _ _ _ us hl => match us, hl with | [_, _, _], _ => rfl
  obtain ⟨d_l_bent, F_l_bent⟩ := cD.def_ 32 rfl
  have F_l_bent : Fun K "_law_bent" "_law_bent" (top 50) (He.ga K "_law_bent") d_l_bent := fun_of F_l_bent
  have b_l_bent := F_l_bent.binds (ps := ["well", "rows", "order"]) fun _ _ _ _ _ _ us hl => match us, hl with | [_, _, _], _ => rfl
  obtain ⟨d_l_looked, F_l_looked⟩ := cD.def_ 33 rfl
  have F_l_looked : Fun K "_law_looked" "_law_looked" (top 51) (He.ga K "_law_looked") d_l_looked := fun_of F_l_looked
  have b_l_looked := F_l_looked.binds (ps := ["rows", "value"]) fun _ _ _ _ _ _ us hl => match us, hl with | [_, _], _ => rfl
  obtain ⟨d_l_order_right, F_l_order_right⟩ := cD.def_ 34 rfl
  have F_l_order_right : Fun K "_law_order_right" "_law_order_right" (top 52) (He.ga K "_law_order_right") d_l_order_right := fun_of F_l_order_right
  have b_l_order_right := F_l_order_right.binds (ps := ["well", "rows", "order"]) fun _ _ _ _ _ _ us hl => match us, hl with | [_, _, _], _ => rfl
  obtain ⟨d_l_quarrels_right, F_l_quarrels_right⟩ := cD.def_ 35 rfl
  have F_l_quarrels_right : Fun K "_law_quarrels_right" "_law_quarrels_right" (top 53) (He.ga K "_law_quarrels_right") d_l_quarrels_right := fun_of F_l_quarrels_right
  have b_l_quarrels_right := F_l_quarrels_right.binds (ps := ["well", "rows"]) fun _ _ _ _ _ _ us hl => match us, hl with | [_, _], _ => rfl
  obtain ⟨d_l_led_quarrels_right, F_l_led_quarrels_right⟩ := cD.def_ 36 rfl
  have F_l_led_quarrels_right : Fun K "_law_led_quarrels_right" "_law_led_quarrels_right" (top 54) (He.ga K "_law_led_quarrels_right") d_l_led_quarrels_right := fun_of F_l_led_quarrels_right
  have b_l_led_quarrels_right := F_l_led_quarrels_right.binds (ps := ["well", "rows"]) fun _ _ _ _ _ _ us hl => match us, hl with | [_, _], _ => rfl
  obtain ⟨d_l_great_right, F_l_great_right⟩ := cD.def_ 37 rfl
  have F_l_great_right : Fun K "_law_great_right" "_law_great_right" (top 55) (He.ga K "_law_great_right") d_l_great_right := fun_of F_l_great_right
  have b_l_great_right := F_l_great_right.binds (ps := ["well"]) fun _ _ _ _ _ _ us hl => match us, hl with | [_], _ => rfl
  obtain ⟨d_l_refused_right, F_l_refused_right⟩ := cD.def_ 38 rfl
  have F_l_refused_right : Fun K "_law_refused_right" "_law_refused_right" (top 56) (He.ga K "_law_refused_right") d_l_refused_right := fun_of F_l_refused_right
  have b_l_refused_right := F_l_refused_right.binds (ps := ["well"]) fun _ _ _ _ _ _ us hl => match us, hl with | [_], _ => rfl
  obtain ⟨d_law, F_law⟩ := cD.def_ 39 rfl
  have F_law : Fun K "law" "law" (top 57) (He.ga K "law") d_law := fun_of F_law
  have b_law := F_law.binds (ps := ["script"]) fun _ _ _ _ _ _ us hl => match us, hl with | [_], _ => rfl
  obtain ⟨d_eB, F_eB⟩ := cD.def_ 40 rfl
  have F_eB : Fun K "__init__" "BadAsk.__init__" (mem 9 0) (He.ma K (He.ga K "BadAsk") "__init__") d_eB := fun_of F_eB
  obtain ⟨d_eT, F_eT⟩ := cD.def_ 41 rfl
  have F_eT : Fun K "__init__" "TooMany.__init__" (mem 10 0) (He.ma K (He.ga K "TooMany") "__init__") d_eT := fun_of F_eT
  obtain ⟨d_aI, F_aI⟩ := cD.def_ 42 rfl
  have F_aI : FunD K "__init__" "Ask.__init__" (defArgs sInit) (defBody sInit) (defScope sInit) [.non, .non] [] (He.ma K (He.ga K "Ask") "__init__") d_aI := F_aI
  obtain ⟨d_aA, F_aA⟩ := cD.def_ 43 rfl
  have F_aA : Fun K "is_ahead" "Ask.is_ahead" sAhead (He.ma K (He.ga K "Ask") "is_ahead") d_aA := fun_of F_aA
  have b_aA := F_aA.binds (ps := ["self", "other"]) fun _ _ _ _ _ _ us hl => match us, hl with | [_, _], _ => rfl
  obtain ⟨d_oI, F_oI⟩ := cD.def_ 44 rfl
  have F_oI : Fun K "__init__" "Order.__init__" sOrdI (He.ma K (He.ga K "Order") "__init__") d_oI := fun_of F_oI
  have b_oI := F_oI.binds (ps := ["self", "indexes"]) fun _ _ _ _ _ _ us hl => match us, hl with | [_, _], _ => rfl
  obtain ⟨d_qI, F_qI⟩ := cD.def_ 45 rfl
  have F_qI : Fun K "__init__" "Quarrel.__init__" sQuaI (He.ma K (He.ga K "Quarrel") "__init__") d_qI := fun_of F_qI
  have b_qI := F_qI.binds (ps := ["self", "word", "one", "other"]) fun _ _ _ _ _ _ us hl => match us, hl with | [_, _, _, _], _ => rfl
  have TB0 : B0 mg := ⟨z_isinstance, z_int, z_bool, z_str, z_len, z_all, z_list, z_tuple, z_dict⟩
  have T : B1 mg := ⟨TB0, z_range, z_max, z_min, z_sorted, z_repr, z_abs, z_enumerate⟩
  have C : C0 mg _ := ⟨cLets, g_is_integer⟩
  have no7 : ∀ (T : String), T ∈ ["NoneType", "bool", "int", "str", "list", "tuple", "dict"] → PySem.W.kitOne K (.type T) (.ref (He.ga K "Ask")) = some false := fun T m => by
    rcases List.mem_cons.mp m with rfl | m
    · exact kit 6 _ rfl
    rcases List.mem_cons.mp m with rfl | m
    · exact kit 7 _ rfl
    rcases List.mem_cons.mp m with rfl | m
    · exact kit 8 _ rfl
    rcases List.mem_cons.mp m with rfl | m
    · exact kit 9 _ rfl
    rcases List.mem_cons.mp m with rfl | m
    · exact kit 10 _ rfl
    rcases List.mem_cons.mp m with rfl | m
    · exact kit 11 _ rfl
    rcases List.mem_cons.mp m with rfl | m
    · exact kit 12 _ rfl
    cases m
  have no7o : ∀ (T : String), T ∈ ["NoneType", "bool", "int", "str", "list", "tuple", "dict"] → PySem.W.kitOne K (.type T) (.ref (He.ga K "Order")) = some false := fun T m => by
    rcases List.mem_cons.mp m with rfl | m
    · exact kit 25 _ rfl
    rcases List.mem_cons.mp m with rfl | m
    · exact kit 26 _ rfl
    rcases List.mem_cons.mp m with rfl | m
    · exact kit 27 _ rfl
    rcases List.mem_cons.mp m with rfl | m
    · exact kit 28 _ rfl
    rcases List.mem_cons.mp m with rfl | m
    · exact kit 29 _ rfl
    rcases List.mem_cons.mp m with rfl | m
    · exact kit 30 _ rfl
    rcases List.mem_cons.mp m with rfl | m
    · exact kit 31 _ rfl
    cases m
  have no7q : ∀ (T : String), T ∈ ["NoneType", "bool", "int", "str", "list", "tuple", "dict"] → PySem.W.kitOne K (.type T) (.ref (He.ga K "Quarrel")) = some false := fun T m => by
    rcases List.mem_cons.mp m with rfl | m
    · exact kit 32 _ rfl
    rcases List.mem_cons.mp m with rfl | m
    · exact kit 33 _ rfl
    rcases List.mem_cons.mp m with rfl | m
    · exact kit 34 _ rfl
    rcases List.mem_cons.mp m with rfl | m
    · exact kit 35 _ rfl
    rcases List.mem_cons.mp m with rfl | m
    · exact kit 36 _ rfl
    rcases List.mem_cons.mp m with rfl | m
    · exact kit 37 _ rfl
    rcases List.mem_cons.mp m with rfl | m
    · exact kit 38 _ rfl
    cases m
  have A : AskC K mg (He.ga K "Ask") := ⟨g_Ask, cl_Ask, na_Ask_client, na_Ask_word, na_Ask_begun, na_Ask_ended, na_Ask_told, fun H a dx fs e => .ins e cl_Ask (He.eqO_ok hA1) (He.eqO_ok hA2) (of_decide_eq_true hA3) (of_decide_eq_true hA4), kit 2 _ rfl, no7⟩
  have AO : OrdC K mg (He.ga K "Order") := ⟨g_Order, cl_Order, na_Order_indexes, fun H a dx fs e => .ins e cl_Order (He.eqO_ok hO1) (He.eqO_ok hO2) (of_decide_eq_true hO3) (of_decide_eq_true hO4), kit 3 _ rfl, no7o⟩
  have AQ : QuaC K mg (He.ga K "Quarrel") (He.ga K "Order") := ⟨g_Quarrel, cl_Quarrel, na_Quarrel_word, na_Quarrel_one, na_Quarrel_other, fun H a dx fs e => .ins e cl_Quarrel (He.eqO_ok hQ1) (He.eqO_ok hQ2) (of_decide_eq_true hQ3) (of_decide_eq_true hQ4), kit 4 _ rfl, kit 5 _ rfl, no7q⟩
  have NL : NoLT K (He.ga K "Ask") := by
    refine ⟨fun T m => ?_, kit 13 _ rfl, kit 14 _ rfl⟩
    rcases List.mem_cons.mp m with rfl | m
    · exact ⟨kit 15 _ rfl, kit 16 _ rfl⟩
    rcases List.mem_cons.mp m with rfl | m
    · exact ⟨kit 17 _ rfl, kit 18 _ rfl⟩
    rcases List.mem_cons.mp m with rfl | m
    · exact ⟨kit 19 _ rfl, kit 20 _ rfl⟩
    rcases List.mem_cons.mp m with rfl | m
    · exact ⟨kit 21 _ rfl, kit 22 _ rfl⟩
    rcases List.mem_cons.mp m with rfl | m
    · exact ⟨kit 23 _ rfl, kit 24 _ rfl⟩
    cases m
  have RF : RefF K mg (He.ga K "OpenError") (He.ga K "BadAsk") (He.ga K "TooMany") := ⟨g_OpenError, g_BadAsk, g_TooMany, (errI_ok eB g_BadAsk).ex, (errI_ok eT g_TooMany).ex, x_BadAsk, x_TooMany, kit 0 _ rfl, kit 1 _ rfl, (errI_ok eB g_BadAsk).no _ List.mem_cons_self, (errI_ok eT g_TooMany).no _ List.mem_cons_self, (errI_ok eT g_TooMany).no _ (List.mem_cons_of_mem _ List.mem_cons_self)⟩
  refine ⟨d_law, [], spLaw K, (fun p hp => nomatch hp), (fun p hp => nomatch hp), (fun p hp => nomatch hp), fun s u => ?_, fun H a ns hl _ hH hS => ?_, fun base X2 G2 hb hT => ?_⟩
  · obtain ⟨oc, od, kV, doc, pm, an, cdv, ct, osl, rfl, _⟩ := F_law.ex
    exact .of_eq rfl
  · exact ⟨a, ns, rfl, hS, hl, fun _ => rfl⟩
  · have efa := hfa.symm.trans g_law
    cases efa
    have MB := mk_BadAsk (P := PySem.Challenge.rw_stayopen_k37_orders_and_quarrels_bent.prog) (w := w) (base := base) eB g_BadAsk F_eB TB0 g_copied F_copied b_copied
    have MT := mk_TooMany (P := PySem.Challenge.rw_stayopen_k37_orders_and_quarrels_bent.prog) (w := w) (base := base) eT g_TooMany F_eT TB0 g_copied F_copied b_copied
    have GK := ok_check_ask F_check_ask TB0 C g_is_name g_is_count F_is_integer b_is_integer F_is_name b_is_name F_is_count b_is_count MB
    have GI := ok_init F_aI A g_check_ask GK F_check_ask b_check_ask
    have IF := init_f (fK := 0) (dK := d_check_ask) F_aI mAsk GI
    have GN := ok_need F_need_asks A T cMost MB MT
    have GPo := ok_parts_of (P := PySem.Challenge.rw_stayopen_k37_orders_and_quarrels_bent.prog) (w := w) (base := base) F_parts_of A T g_told_lots F_told_lots b_told_lots
    have GZ := ok_zones F_zones A T g_need_asks GN F_need_asks b_need_asks g_told_lots F_told_lots b_told_lots g_parts_of F_parts_of b_parts_of
    have GA := ok_ahead F_aA A TB0 MB
    have bI : Binds K d_aI psI [] := by
      obtain ⟨ds, v, b⟩ := F_aI.binds1 (ps := psI) 6 2 (by decide) rfl fun T kV doc pm an cdv ct us its h1 h2 => match us, its, h1, h2 with
        | [_, _, _, _, _, _], [_, _], _, _ => ⟨_, rfl, rfl⟩
      cases v
      exact b
    have c_made : Cal PySem.Challenge.rw_stayopen_k37_orders_and_quarrels_bent.prog w K mg base "_law_made" 10 ["row"] (spMade (He.ga K "Ask")) := ⟨_, _, g__law_made, FnOk.x0 (ok_made F_l_made A mAsk GI bI), F_l_made.kp, b_l_made⟩
    have c_draw : Cal PySem.Challenge.rw_stayopen_k37_orders_and_quarrels_bent.prog w K mg base "_law_draw" 1 ["well", "many"] spDraw := ⟨_, _, g__law_draw, ok_draw F_l_draw T, F_l_draw.kp, b_l_draw⟩
    have c_one : Cal PySem.Challenge.rw_stayopen_k37_orders_and_quarrels_bent.prog w K mg base "_law_one" 2 ["well", "some"] spOne := ⟨_, _, g__law_one, ok_one F_l_one T g__law_draw F_l_draw b_l_draw, F_l_one.kp, b_l_one⟩
    have c_parts : Cal PySem.Challenge.rw_stayopen_k37_orders_and_quarrels_bent.prog w K mg base "_law_parts" 1 ["rows"] spLParts := ⟨_, _, g__law_parts, ok_lparts F_l_parts T, F_l_parts.kp, b_l_parts⟩
    have c_ahead : Cal PySem.Challenge.rw_stayopen_k37_orders_and_quarrels_bent.prog w K mg base "_law_ahead" 1 ["one", "other"] spLAhead := ⟨_, _, g__law_ahead, ok_lahead F_l_ahead, F_l_ahead.kp, b_l_ahead⟩
    have c_orders : Cal PySem.Challenge.rw_stayopen_k37_orders_and_quarrels_bent.prog w K mg base "_law_orders" 2 ["rows"] spLOrders := ⟨_, _, g__law_orders, ok_lorders F_l_orders T c_parts c_ahead, F_l_orders.kp, b_l_orders⟩
    have c_zones : Cal PySem.Challenge.rw_stayopen_k37_orders_and_quarrels_bent.prog w K mg base "_law_zones" 2 ["rows"] (spLZones PySem.Challenge.rw_stayopen_k37_orders_and_quarrels_bent.prog w) := ⟨_, _, g__law_zones, ok_lzones F_l_zones T c_parts, F_l_zones.kp, b_l_zones⟩
    have c_oneL : Cal PySem.Challenge.rw_stayopen_k37_orders_and_quarrels_bent.prog w K mg base "_law_one" 2 ["well", "some"] spOneL := ⟨_, _, g__law_one, ok_oneL F_l_one T g__law_draw F_l_draw b_l_draw, F_l_one.kp, b_l_one⟩
    have c_led : Cal PySem.Challenge.rw_stayopen_k37_orders_and_quarrels_bent.prog w K mg base "_law_led" 3 ["well", "many", "spread"] spLed := ⟨_, _, g__law_led, ok_led F_l_led T c_draw c_one, F_l_led.kp, b_l_led⟩
    have c_rows : Cal PySem.Challenge.rw_stayopen_k37_orders_and_quarrels_bent.prog w K mg base "_law_rows" 3 ["well", "many", "span"] spRows := ⟨_, _, g__law_rows, ok_rows F_l_rows T c_draw c_one, F_l_rows.kp, b_l_rows⟩
    have c_po : Cal PySem.Challenge.rw_stayopen_k37_orders_and_quarrels_bent.prog w K mg base "parts_of" 2 ["asks"] (spParts K (He.ga K "Ask")) := ⟨_, _, g_parts_of, GPo, F_parts_of.kp, b_parts_of⟩
    have c_isI : Cal PySem.Challenge.rw_stayopen_k37_orders_and_quarrels_bent.prog w K mg base "is_integer" 1 ["value"] (spIsInt K) := ⟨_, _, g_is_integer, ok_is_integer F_is_integer TB0, F_is_integer.kp, b_is_integer⟩
    have c_within : Cal PySem.Challenge.rw_stayopen_k37_orders_and_quarrels_bent.prog w K mg base "is_within" 2 ["value", "least", "most"] (spWithin K) := ⟨_, _, g_is_within, ok_within F_is_within TB0 g_is_integer F_is_integer b_is_integer, F_is_within.kp, b_is_within⟩
    have c_same : Cal PySem.Challenge.rw_stayopen_k37_orders_and_quarrels_bent.prog w K mg base "is_same" 2 ["value", "told"] (spSame K) := ⟨_, _, g_is_same, ok_same F_is_same TB0 g_is_integer F_is_integer b_is_integer, F_is_same.kp, b_is_same⟩
    have c_arep : Cal PySem.Challenge.rw_stayopen_k37_orders_and_quarrels_bent.prog w K mg base "are_parts" 3 ["asks", "value"] (spArePs K (He.ga K "Ask")) := ⟨_, _, g_are_parts, ok_areps F_are_parts T g_is_integer F_is_integer b_is_integer c_po, F_are_parts.kp, b_are_parts⟩
    have c_ans : Cal PySem.Challenge.rw_stayopen_k37_orders_and_quarrels_bent.prog w K mg base "are_answers_right" 1 ["asks", "indexes"] (spAns K (He.ga K "Ask")) := ⟨_, _, g_are_answers_right, ok_ans F_are_answers_right A, F_are_answers_right.kp, b_are_answers_right⟩
    have c_along : Cal PySem.Challenge.rw_stayopen_k37_orders_and_quarrels_bent.prog w K mg base "is_along_time" 8 ["asks", "indexes"] (spAlong K (He.ga K "Ask")) := ⟨_, _, g_is_along_time, ok_along F_is_along_time A me_is_ahead (ahead_x GA) b_aA, F_is_along_time.kp, b_is_along_time⟩
    have c_ino : Cal PySem.Challenge.rw_stayopen_k37_orders_and_quarrels_bent.prog w K mg base "are_in_order" 9 ["asks", "indexes"] (spInO K (He.ga K "Ask")) := ⟨_, _, g_are_in_order, ok_ino F_are_in_order c_ans c_along, F_are_in_order.kp, b_are_in_order⟩
    have c_fut : Cal PySem.Challenge.rw_stayopen_k37_orders_and_quarrels_bent.prog w K mg base "is_future" 8 ["asks", "one", "other"] (spFut K (He.ga K "Ask")) := ⟨_, _, g_is_future, ok_fut F_is_future T A me_is_ahead (ahead_x GA) b_aA c_within c_isI, F_is_future.kp, b_is_future⟩
    have c_zP : Cal PySem.Challenge.rw_stayopen_k37_orders_and_quarrels_bent.prog w K mg base "zones" 8 ["asks"] (spZonesX K (He.ga K "Ask")) := ⟨_, _, g_zones, zones_x GZ, F_zones.kp, b_zones⟩
    have c_lao : Cal PySem.Challenge.rw_stayopen_k37_orders_and_quarrels_bent.prog w K mg base "are_lots_at_odds" 9 ["asks", "one", "other"] (spLAO K (He.ga K "Ask")) := ⟨_, _, g_are_lots_at_odds, ok_lao F_are_lots_at_odds T c_same c_zP, F_are_lots_at_odds.kp, b_are_lots_at_odds⟩
    have GSh := ok_show (cB := (He.ga K "BadAsk")) (cT := (He.ga K "TooMany")) F_shows_order T AO AQ g_need_asks GN F_need_asks.kp b_need_asks c_arep c_ino c_same c_fut c_lao
    have SHK : ShowK PySem.Challenge.rw_stayopen_k37_orders_and_quarrels_bent.prog w K mg base (He.ga K "Ask") (He.ga K "Order") (He.ga K "Quarrel") := ⟨⟨_, _, g_shows_order, show_x GSh, F_shows_order.kp, b_shows_order, kb_swap2 F_shows_order (fun _ _ _ _ _ _ _ _ => rfl)⟩⟩
    have SHF : ShowF PySem.Challenge.rw_stayopen_k37_orders_and_quarrels_bent.prog w K mg base (He.ga K "Ask") (He.ga K "BadAsk") (He.ga K "TooMany") (He.ga K "Order") (He.ga K "Quarrel") := ⟨⟨_, _, g_shows_order, GSh, F_shows_order.kp, b_shows_order⟩⟩
    have c_shX : Cal PySem.Challenge.rw_stayopen_k37_orders_and_quarrels_bent.prog w K mg base "shows_order" 10 ["asks", "value"] (spShowX K (He.ga K "Ask") (He.ga K "Order") (He.ga K "Quarrel")) := ⟨_, _, g_shows_order, show_x GSh, F_shows_order.kp, b_shows_order⟩
    have MKO : MkO PySem.Challenge.rw_stayopen_k37_orders_and_quarrels_bent.prog w K mg base (He.ga K "Order") := ⟨⟨_, _, mOrder, ok_ordI F_oI AO TB0 g_copied F_copied b_copied, b_oI⟩⟩
    have MKQ : MkQ PySem.Challenge.rw_stayopen_k37_orders_and_quarrels_bent.prog w K mg base (He.ga K "Quarrel") := ⟨⟨_, _, mQuarrel, ok_quaI F_qI AQ TB0 g_copied F_copied b_copied, b_qI⟩⟩
    have c_cross : Cal PySem.Challenge.rw_stayopen_k37_orders_and_quarrels_bent.prog w K mg base "_law_cross" 1 ["here", "there"] spCross := ⟨_, _, g__law_cross, ok_cross F_l_cross, F_l_cross.kp, b_l_cross⟩
    have c_crg : Cal PySem.Challenge.rw_stayopen_k37_orders_and_quarrels_bent.prog w K mg base "_law_crossing" 3 ["rows", "one", "other"] (spCrg K) := ⟨_, _, g__law_crossing, ok_crg F_l_crossing T c_zones c_cross, F_l_crossing.kp, b_l_crossing⟩
    have c_isq : Cal PySem.Challenge.rw_stayopen_k37_orders_and_quarrels_bent.prog w K mg base "_law_is_quarrel" 4 ["rows", "word", "one", "other"] (spLIQ K) := ⟨_, _, g__law_is_quarrel, ok_liq F_l_is_quarrel T c_crg, F_l_is_quarrel.kp, b_l_is_quarrel⟩
    have c_iso : Cal PySem.Challenge.rw_stayopen_k37_orders_and_quarrels_bent.prog w K mg base "_law_is_order" 2 ["rows", "indexes"] (spLIO K) := ⟨_, _, g__law_is_order, ok_lio F_l_is_order T c_parts, F_l_is_order.kp, b_l_is_order⟩
    have c_bent : Cal PySem.Challenge.rw_stayopen_k37_orders_and_quarrels_bent.prog w K mg base "_law_bent" 3 ["well", "rows", "order"] (spBent K) := ⟨_, _, g__law_bent, ok_bent F_l_bent T c_draw c_one, F_l_bent.kp, b_l_bent⟩
    have c_lk : Cal PySem.Challenge.rw_stayopen_k37_orders_and_quarrels_bent.prog w K mg base "_law_looked" 11 ["rows", "value"] (spLk K (He.ga K "Order") (He.ga K "Quarrel")) := ⟨_, _, g__law_looked, ok_lk F_l_looked c_made c_shX, F_l_looked.kp, b_l_looked⟩
    have c_rr : Cal PySem.Challenge.rw_stayopen_k37_orders_and_quarrels_bent.prog w K mg base "_law_refused_right" 11 ["well"] spRR := ⟨_, _, g__law_refused_right, ok_rr F_l_refused_right T A AO NL RF MKO SHF c_one IF, F_l_refused_right.kp, b_l_refused_right⟩
    have c_well : Cal PySem.Challenge.rw_stayopen_k37_orders_and_quarrels_bent.prog w K mg base "_law_well" 1 ["script"] (spPen K) := ⟨_, _, g__law_well, ok_well F_l_well T, F_l_well.kp, b_l_well⟩
    have c_qr : CalG PySem.Challenge.rw_stayopen_k37_orders_and_quarrels_bent.prog w K mg base "_law_quarrels_right" 12 ["well", "rows"] spQR := ⟨_, _, g__law_quarrels_right, ok_qr hb F_l_quarrels_right T AQ MKQ c_lk c_isq c_one, F_l_quarrels_right.kp, b_l_quarrels_right⟩
    have c_or : CalG PySem.Challenge.rw_stayopen_k37_orders_and_quarrels_bent.prog w K mg base "_law_order_right" 12 ["well", "rows", "order"] (spOR K) := ⟨_, _, g__law_order_right, ok_or hb F_l_order_right T AO AQ MKO SHK c_lk c_made c_bent c_iso c_one, F_l_order_right.kp, b_l_order_right⟩
    have c_lq : CalG PySem.Challenge.rw_stayopen_k37_orders_and_quarrels_bent.prog w K mg base "_law_led_quarrels_right" 12 ["well", "rows"] spLQ := ⟨_, _, g__law_led_quarrels_right, ok_lq hb F_l_led_quarrels_right T AQ MKQ SHK c_isq c_draw c_oneL c_made c_zones c_cross, F_l_led_quarrels_right.kp, b_l_led_quarrels_right⟩
    have c_gr : CalG PySem.Challenge.rw_stayopen_k37_orders_and_quarrels_bent.prog w K mg base "_law_great_right" 13 ["well"] spGR := ⟨_, _, g__law_great_right, ok_gr hb F_l_great_right T AO MKO SHK c_led c_draw c_one c_made c_iso c_lq, F_l_great_right.kp, b_l_great_right⟩
    exact ok_law (C := (He.ga K "Ask")) F_law T AO AQ MKO MKQ ⟨c_well, c_rows, c_draw, c_one, c_oneL, c_lk, c_orders, c_parts, c_led, c_rr, c_qr, c_or, c_lq, c_gr⟩
end K37
end

section
open PySem PySem.W PySem.Calls PyProof.Rows
set_option Elab.async false
set_option linter.all false
set_option maxRecDepth 100000
set_option maxHeartbeats 0
theorem PySem.Challenge.cw_stayopen_k37_orders_and_quarrels_bent_holds : PySem.Challenge.rw_stayopen_k37_orders_and_quarrels_bent.Holds := by
  w_on; o_law
  refine HandSHeadRun.head_any (r := OpenLaw.row PySem.Challenge.rw_stayopen_k37_orders_and_quarrels_bent) (q := view (OpenLaw.row PySem.Challenge.rw_stayopen_k37_orders_and_quarrels_bent).prog [57]) (H := K37.hk) (ob := K37.ob) (M := 20000) (loose := K37.nms) (d := HandSHeadRun.topDef (OpenLaw.row PySem.Challenge.rw_stayopen_k37_orders_and_quarrels_bent).prog 57) (kwd := []) K37.ob_eq
    (by kernel_rfl) (fun s => by kernel_rfl) K37.run (by kernel_rfl) (by kernel_rfl) (by kernel_rfl) (by rfl) (by first | assumption | decide +kernel) (by decide +kernel) ⟨rfl, rfl, rfl, rfl, rfl, by decide +kernel⟩ ?hw ?hc
  case hw => w_witness2
  case hc =>
    refine KZ.walkGE (l := PySem.Challenge.rw_stayopen_k37_orders_and_quarrels_bent) (n := 63) (k := 14) (x := "script") rfl (by decide) (by kernel_rfl) ⟨rfl, by decide, by decide⟩ (by decide +kernel) ?F
    intro w mg fa h Y G hmg0
    obtain ⟨K, KX, c⟩ := Y
    have hmg : mg ("law" : PySem.Str) = some (.ref fa) := by
      have e : (HandSHeadRun.topDef (OpenLaw.row PySem.Challenge.rw_stayopen_k37_orders_and_quarrels_bent).prog 57).name = ("law" : PySem.Str) := by kernel_rfl
      rw [← e]
      exact hmg0
    exact ⟨K, KX, K37.joined KX G hmg c⟩
end
