import PyProof.Rows.All
import Wide.All
import OpenK.AllK
import Wide.FinOn
import HandS.Base
import HandS.Call
import HandS.List
import HandS.Exc
import HandS.Lambda
import HandS.Words
import HandS.ExcInit
import HandS.ExcOwn
import KE.KExcIs
import HandS.IsInst
import HandS.EndTab
import HandS.ExcValue
import HandS.Style
import KE.KStateDown
import HandS.Head0
import HandS.Head1
import HandS.Head2
import HandS.HeadEnd
import HandS.HeadHook4
import HandS.NoneIn
import HandS.DictComp
import HandS.Iter
import HandS.OwnEq
import PyProof.InstEq
import PyProof.InstNe
import HandS.ForMost
import HandS.Walk
import HandS.WordsExc
import HandS.Deep
import PyProof.P3In
import HandS.Defaults
import HandS.Star
import HandS.SortInts
import HandS.Wide
import HandS.Conv
import PyProof.ReprLen
import HandS.MakeKw
import HandS.MakeKwOnly
import PySem.Challenge.RW_stayopen_k34_zones_of_histories
section
set_option Elab.async false
set_option linter.all false
set_option maxRecDepth 100000
set_option maxHeartbeats 4000000
/-! rules of my own over the hand layer: data with dicts, repr of data -/
namespace KZ
open PySem PySem.Spec PyProof.Rows L2

/-- the datum of a key -/
def keyD : Key → PyData
  | .inl i => .int i
  | .inr x => .str x
mutual
/-- v is the datum d, dicts too -/
inductive Dv (K : PySem.W.Frag) (H : Hp) : V → PyData → Prop
  | non : Dv K H .non .none
  | bl (b : Bool) : Dv K H (.bl b) (.bool b)
  | int (i : Int) : Dv K H (.int i) (.int i)
  | str (x : Str) : Dv K H (.str x) (.str x)
  | lst {a : Addr} {xs : List V} {ds : List PyData} : SqL K H a xs → Dvs K H xs ds → Dv K H (.ref a) (.list ds)
  | tup {a : Addr} {xs : List V} {ds : List PyData} : SqT K H a xs → Dvs K H xs ds → Dv K H (.ref a) (.tuple ds)
  | dic {a : Addr} {kvs : List (Key × V)} {ps : List (PyData × PyData)} : Rd H a (.dK kvs) → Dks K H kvs ps → Dv K H (.ref a) (.dict ps)
inductive Dvs (K : PySem.W.Frag) (H : Hp) : List V → List PyData → Prop
  | nil : Dvs K H [] []
  | cons {v : V} {vs : List V} {d : PyData} {ds : List PyData} : Dv K H v d → Dvs K H vs ds → Dvs K H (v :: vs) (d :: ds)
inductive Dks (K : PySem.W.Frag) (H : Hp) : List (Key × V) → List (PyData × PyData) → Prop
  | nil : Dks K H [] []
  | cons {k : Key} {v : V} {kvs : List (Key × V)} {d : PyData} {ps : List (PyData × PyData)} : Dv K H v d → Dks K H kvs ps → Dks K H ((k, v) :: kvs) ((keyD k, d) :: ps)
end

section
variable {X : Cx} {pins : List (Addr × Obj)} {σ : L2.St} {H : Hp} {s : Shared}
def ModsD (h : Heap) : Prop := ∃ o es ep, h.get? sysModules = some o ∧ o.data = .dict es ep
theorem keyD_reads {w : World} {P : Program} {h : Heap} (k : Key) (key : Value) (e : (mixKind P w).is k key = true) : Reads h key (keyD k) [] := by
  rcases keyIs_shape (k := k) (v := key) e with ⟨i, t, rfl, rfl⟩ | ⟨x, t, rfl, rfl⟩
  · exact Reads.int i t
  · exact Reads.str x t
mutual
theorem Dv.reads (I : Inv X pins σ H s) (hm : ModsD s.heap) : ∀ (d : PyData) (v : V) (u : Value), Dv X.K H v d → RelV v u → ∃ as, Reads s.heap u d as ∧ sysModules ∉ as
  | .none, _, _, h, r => by
    cases h; cases r
    exact ⟨_, Reads.none, by simp⟩
  | .bool b, _, _, h, r => by
    cases h; cases r
    exact ⟨_, Reads.bool b, by simp⟩
  | .int i, _, _, h, r => by
    cases h
    obtain ⟨t, rfl⟩ := r
    exact ⟨_, Reads.int i t, by simp⟩
  | .str x, _, _, h, r => by
    cases h
    obtain ⟨t, rfl⟩ := r
    exact ⟨_, Reads.str x t, by simp⟩
  | .list ds, _, _, h, r => by
    cases h with
    | lst hs ha =>
      cases r
      obtain ⟨its, rv, ⟨o, n, ho, hc, _, hd⟩, _⟩ := I.list hs
      obtain ⟨as, hr, na⟩ := Dv.readsAll I hm ds _ its ha rv
      refine ⟨_, Reads.list ho hc hd hr, fun hmem => ?_⟩
      rcases List.mem_cons.mp hmem with z | z
      · obtain ⟨om, es, ep, hg, hq⟩ := hm
        rw [z, ho] at hg
        cases hg
        rw [hd] at hq
        cases hq
      · exact na z
  | .tuple ds, _, _, h, r => by
    cases h with
    | tup hs ha =>
      cases r
      obtain ⟨its, rv, ⟨o, ho, hc, n, hd⟩, _⟩ := I.tuple hs
      obtain ⟨as, hr, na⟩ := Dv.readsAll I hm ds _ its ha rv
      exact ⟨_, Reads.tuple ho hc hd hr, na⟩
  | .dict ps, _, _, h, r => by
    cases h with
    | dic hs ha =>
      cases r
      obtain ⟨_, hne, vs, kv, hD⟩ := hs.ok I.hok
      obtain ⟨as, hr, na⟩ := Dv.readsKv I hm ps _ vs ha kv
      refine ⟨_, PyProof.V.reads_dictOf (enc := keyD) (fun k key e => keyD_reads k key e) hD hr, fun hmem => ?_⟩
      rcases List.mem_cons.mp hmem with z | z
      · rw [← z] at hne
        simp at hne
      · exact na z
theorem Dv.readsAll (I : Inv X pins σ H s) (hm : ModsD s.heap) : ∀ (ds : List PyData) (vs : List V) (us : List Value), Dvs X.K H vs ds → Vals vs us → ∃ as, ReadsAll s.heap us ds as ∧ sysModules ∉ as
  | [], _, _, h, r => by
    cases h; cases r
    exact ⟨_, ReadsAll.nil, by simp⟩
  | d :: ds, _, _, h, r => by
    cases h with
    | cons h1 h2 =>
      cases r with
      | cons r1 r2 =>
        obtain ⟨as, q1, n1⟩ := Dv.reads I hm d _ _ h1 r1
        obtain ⟨bs, q2, n2⟩ := Dv.readsAll I hm ds _ _ h2 r2
        exact ⟨_, ReadsAll.cons q1 q2, fun z => (List.mem_append.mp z).elim n1 n2⟩
theorem Dv.readsKv (I : Inv X pins σ H s) (hm : ModsD s.heap) : ∀ (ps : List (PyData × PyData)) (kvs : List (Key × V)) (us : List (Key × Value)), Dks X.K H kvs ps → KV kvs us → ∃ as, PyProof.V.PairsRead s.heap keyD us ps as ∧ sysModules ∉ as
  | [], _, _, h, r => by
    cases h; cases r
    exact ⟨_, PyProof.V.PairsRead.nil, by simp⟩
  | _ :: ps, _, _, h, r => by
    cases h with
    | cons h1 h2 =>
      cases r with
      | @cons _ q _ _ r1 r2 =>
        obtain ⟨qk, qv⟩ := q
        obtain ⟨e1, r1⟩ := r1
        obtain rfl : _ = qk := e1
        obtain ⟨as, q1, n1⟩ := Dv.reads I hm _ _ _ h1 r1
        obtain ⟨bs, q2, n2⟩ := Dv.readsKv I hm ps _ _ h2 r2
        exact ⟨_, PyProof.V.PairsRead.cons q1 q2, fun z => (List.mem_append.mp z).elim n1 n2⟩
end

/-- what base says of the modules' dict, for every state -/
theorem modsD_of (hb : ModsD X.base) (I : Inv X pins σ H s) : ModsD s.heap :=
  let ⟨o, es, ep, h1, h2⟩ := hb
  ⟨o, es, ep, I.bk _ _ h1, h2⟩

/-- repr(x) of data, no repr being under way -/
def rRepr (K : PySem.W.Frag) : List V → Hp → VK → Prop := fun xs H Q => ∃ (v : V) (d : PyData), xs = [v] ∧ Dv K H v d ∧ d.showable = true ∧ d.shown.length ≤ 10000 ∧ d.depth ≤ 40 ∧ Q (.str d.shown) H
theorem call_reprD (hg : X.A.guards = some []) (hu : X.A.units + 64 < cLine) (hb : ModsD X.base) : CallR X (.builtin "repr") (rRepr X.K) := by
  intro pins s σ H xs us Q I r h
  obtain ⟨v, d, rfl, hd, hs, hl, hdp, q⟩ := h
  obtain ⟨u, rfl, r1⟩ := vals1 r
  obtain ⟨as, hr, na⟩ := Dv.reads I (modsD_of hb I) d v u hd r1
  have hz : d.shown.length ≤ sizeLine := Nat.le_trans hl (by decide)
  cases hd with
  | non =>
    cases r1
    exact PySem.P.repr_of_none ⟨.str _, H, I.tok _, ⟨_, rfl⟩, q⟩
  | bl b =>
    cases r1
    refine PySem.P.repr_of_bool ⟨.str _, H, I.tok _, ⟨_, rfl⟩, ?_⟩
    cases b <;> exact q
  | int i =>
    obtain ⟨t, rfl⟩ := r1
    exact PySem.P.repr_of_int (by simpa [PyData.showable] using hs) ⟨.str _, H, I.tok _, ⟨_, rfl⟩, q⟩
  | str x =>
    obtain ⟨t, rfl⟩ := r1
    exact PySem.P.repr_of_str ⟨.str _, H, I.tok _, ⟨_, rfl⟩, q⟩ (by simpa only [PyData.shown] using hz)
  | lst h1 h2 =>
    cases r1
    exact repr_of_reads' hr hs (fun _ => na) hg (by omega) (fun _ _ e => e) (fun h' u tk hk => ⟨.str _, H, I.kept hk, ⟨_, rfl⟩, q⟩) hz
  | tup h1 h2 =>
    cases r1
    exact repr_of_reads' hr hs (fun _ => na) hg (by omega) (fun _ _ e => e) (fun h' u tk hk => ⟨.str _, H, I.kept hk, ⟨_, rfl⟩, q⟩) hz
  | dic h1 h2 =>
    cases r1
    exact repr_of_reads' hr hs (fun _ => na) hg (by omega) (fun _ _ e => e) (fun h' u tk hk => ⟨.str _, H, I.kept hk, ⟨_, rfl⟩, q⟩) hz
end
end KZ
end

section
set_option Elab.async false
set_option linter.all false
set_option maxRecDepth 100000
set_option maxHeartbeats 4000000
/-! promises of defs that hold where no repr is under way -/
namespace KZ
open PySem PySem.Spec PyProof.Rows L2

structure FnG (P : Program) (w : World) (K : PySem.W.Frag) (mg : Str → Option Value) (base : Heap) (cx : CXT) (k : Nat) (f : Addr) (fd : FuncData) (ps : List Str) (sp : Sp) : Prop where
  len : ∀ vs H Q E, sp vs H Q E → vs.length = ps.length
  runG : ∀ (A : Around) (out : List Env) (s : Shared) (H : Hp) (ar : Args) (us : List Value) (vs : List V) (Q : VK) (E : XK), A.guards = some [] → Room k A → Env0 P w K mg base A out s H → BindsTo s fd ar (ps.zip us) → Vals vs us → sp vs H Q E →
    codeAny (model P w) A (.call (.ref f) ar) (CR cx out P w H s Q E) s
theorem FnG.ofOk {P : Program} {w : World} {K : PySem.W.Frag} {mg : Str → Option Value} {base : Heap} {cx : CXT} {k : Nat} {f : Addr} {fd : FuncData} {ps : List Str} {sp : Sp} (F : FnOk P w K mg base cx k f fd ps sp) : FnG P w K mg base cx k f fd ps sp :=
  ⟨F.len, fun A out s H ar us vs Q E _ hr he hb hv hs => F.run A out s H ar us vs Q E hr he hb hv hs⟩
theorem FnG.mono {P : Program} {w : World} {K : PySem.W.Frag} {mg : Str → Option Value} {base : Heap} {cx : CXT} {j k : Nat} {f : Addr} {fd : FuncData} {ps : List Str} {sp : Sp} (F : FnG P w K mg base cx j f fd ps sp) (h : j ≤ k) : FnG P w K mg base cx k f fd ps sp :=
  ⟨F.len, fun A out s H ar us vs Q E hg hr he hb hv hs => F.runG A out s H ar us vs Q E hg (hr.mono h) he hb hv hs⟩

section
variable {X : Cx} {cx : CXT} {k : Nat} {f : Addr} {fd : FuncData} {ps : List Str} {sp : Sp} {dvs : List V} {ds : List Value} {E : XK} {x : Str} {p pos : Pos} {e : Expr} {es : List Expr} {t : TA}
theorem run_fnG {pins : List (Addr × Obj)} {σ : L2.St} {H : Hp} {s : Shared} {Q : VK} {us : List Value} {vs : List V} (F : FnG X.prog X.w X.K X.mg X.base cx k f fd ps sp) (hgd : X.A.guards = some []) (hr : Room k X.A) (hb : Binds X.K fd ps ds)
    (hd : Vals dvs ds) (hx : Passes cx X E) (I : Inv X pins σ H s) (r : Vals vs us) (h : sp (vs ++ dvs) H Q E) : wpAny (model X.prog X.w) X.A (call (.ref f) us) (EP X pins σ Q) X.xe s := by
  have rr : Vals (vs ++ dvs) (us ++ ds) := r.append hd
  have hl : (us ++ ds).length = ps.length := by rw [← rr.length]; exact F.len _ _ _ _ h
  refine wpAny_call (codeAny_mono (F.runG X.A X.stack s H ⟨us, []⟩ (us ++ ds) (vs ++ dvs) Q E hgd hr I.env0 (hb s us I.kIn hl) rr h) fun r s' hq => ?_)
  rcases r with er | fl
  · exact hx pins σ H s er s' I hq
  · cases fl with
    | ret u => exact I.after hq
    | _ => exact False.elim hq
theorem pe_callG (F : FnG X.prog X.w X.K X.mg X.base cx k f fd ps sp) (hgd : X.A.guards = some []) (hr : Room k X.A) (hg : Gl X x) (hm : X.mg x = some (.ref f)) (hk : PySem.W.keepIn X.K (.ref f) = true) (hb : Binds X.K fd ps ds) (hd : Vals dvs ds) (hx : Passes cx X E)
    (ha : PA X (e :: es) t) (hdb : (x == ("__debug__" : Str)) = false := by decide) (he : starEach (e :: es) X.env = (false, eval e X.env) :: starEach es X.env := by rfl) (hpl : (backTo pos (starEach es X.env)).any (·.1) = false := by rfl) :
    PE X (.Call (.Name x p) (e :: es) [] pos) (tCall sp dvs E t) :=
  ⟨fun pins s σ H Q I h => wpAny_Call_Name_kw (ld_glob I hg hm (PySem.W.callWith_K (h₀ := X.base) I.ok.mod.kin hk (thn (ha.run pos pins s σ H _ I h) fun us s1 ⟨vs, H1, I1, r, q⟩ =>
    ⟨I1.kIn, run_fnG F hgd hr hb hd hx I1 r q⟩) he hpl) hdb)⟩
end

/-- a def, its body walked where no repr is under way -/
theorem okG {P : Program} {w : World} {K : PySem.W.Frag} {mg : Str → Option Value} {base : Heap} {x qual : Str} {st : Stmt} {f : Addr} {fd : FuncData} {N ps : List Str} {k : Nat} {sp : Sp} (F : Fun K x qual st f fd) (S : FnScope N ps (defScope st))
    (len : ∀ vs H Q E, sp vs H Q E → vs.length = ps.length)
    (hbody : ∀ (cdv : Value) (A : Around) (out : List Env) (s : Shared) (H : Hp) (vs : List V) (Q : VK) (E : XK), A.guards = some [] → Room k (A.deeper (envOfC qual (defScope st) s.heap.objs.size f cdv)) → sp vs H Q E →
      ∃ t, PSs (cxOf CX0 P w K mg base N qual (defScope st) f cdv A out s H E).nox (defBody st) t ∧ t { nx := fun _ H' => Q .non H', rt := Q } (start N vs) H) : FnG P w K mg base CX0 (k + 1) f fd ps sp := by
  obtain ⟨oc, od, kV, doc, pm, an, cdv, ct, osl, rfl, lk, hcd⟩ := F.ex
  refine ⟨len, fun A out s H ar us vs Q E hgd hr e0 hb r hsp => LamX.run_ofS (N := N) lk hcd S hr e0 hb r (len _ _ _ _ hsp) fun hr' => ?_⟩
  obtain ⟨t, ht, q⟩ := hbody cdv A out s H vs Q E hgd hr' hsp
  exact ⟨t, ht.nox, q⟩
end KZ
end

section
set_option Elab.async false
set_option linter.all false
set_option maxRecDepth 100000
set_option maxHeartbeats 4000000
/-! errors of the program's own as values: made, read, kept behind a try -/
namespace KZ
open PySem PySem.Spec PyProof.Rows L2

/-- at a: an exception of the class at C, its dict d -/
def EXO (C a : Addr) (d : Option Addr) : HO := .ext fun h => ∃ (oe : Obj) (vs : Array Value), h.get? a = some oe ∧ Zc (.ref C) d oe ∧ oe.data = .fields vs
theorem exo_okE {P : Program} {w : World} {H : Hp} {h : Heap} {C a : Addr} {d : Option Addr} {oe : Obj} {vs : Array Value} (e : h.get? a = some oe) (z : Zc (.ref C) d oe) (f : oe.data = .fields vs) : ObjOk P w H h a (EXO C a d) :=
  ⟨⟨oe, vs, e, z, f⟩, ⟨oe, e⟩, fun _ _ ⟨o, v, q, r⟩ k => ⟨o, v, k o q, r⟩⟩
theorem EXO.get {P : Program} {w : World} {H : Hp} {h : Heap} {C a : Addr} {d : Option Addr} (ok : HOk P w H h) (e : H a = some (EXO C a d)) : ∃ (oe : Obj) (vs : Array Value), h.get? a = some oe ∧ Zc (.ref C) d oe ∧ oe.data = .fields vs := by
  have x : ObjOk P w H h a (.ext fun h => ∃ (oe : Obj) (vs : Array Value), h.get? a = some oe ∧ Zc (.ref C) d oe ∧ oe.data = .fields vs) := ok a _ e
  exact x.1
/-- at dd: the dict of an exception -/
def XD (H : Hp) (dd : Addr) (fs : List (Str × V)) : Prop := H dd = some (exd dd fs) ∨ H dd = some (.xd fs)
theorem XD.get {P : Program} {w : World} {H : Hp} {h : Heap} {dd : Addr} {fs : List (Str × V)} (ok : HOk P w H h) (e : XD H dd fs) : ∃ mA, h.Ns1 dd mA ∧ ∀ f, RelO (fs.lookup f) (mA f) := by
  rcases e with e | e
  · exact exd_at ok e
  · exact ok dd _ e
/-- what the written part says of such a class -/
structure ExcT (K : PySem.W.Frag) (C : Addr) : Prop where
  ga : PySem.W.findIn K (.ref C) "__getattribute__" = some (some (.builtin "BaseException.__getattribute__"))
  gg : PySem.W.findIn K (.ref C) "__getattr__" = some none
  be : PySem.W.subIn K (.ref C) (.type "BaseException") = some true
  hd : PySem.W.hasDictIn K C = true
  kl : PySem.W.findIn K (.ref C) "__class__" = some (some (.builtin "object.__class__"))
  ge : PySem.W.specialIn K (.builtin "object.__class__") "__get__" = some (some (.builtin "getset_descriptor.__get__"))
  tk : PySem.W.takesIn K (.builtin "object.__class__") = some true
  mo : PySem.W.mroIn K C (.type "object") = some true
section
variable {X : Cx} {pins : List (Addr × Obj)} {σ : L2.St} {H : Hp} {s : Shared}
theorem inst_of {C a dd : Addr} {fs : List (Str × V)} (I : Inv X pins σ H s) (e : H a = some (EXO C a (some dd))) (ed : XD H dd fs) :
    ∃ (oe od : Obj) (mA : Str → Option Value), PySem.W.InstAt s.heap a oe C (some od) ∧ (∀ n, PySem.W.lookIn n od = some (mA n)) ∧ ∀ f, RelO (fs.lookup f) (mA f) := by
  obtain ⟨oe, vs, ha, hz, hd⟩ := EXO.get I.hok e
  obtain ⟨mA, hns, rel⟩ := ed.get I.hok
  obtain ⟨od, ho, hl⟩ := lookIn_ns hns
  exact ⟨oe, od, mA, ⟨ha, hz.1, by unfold PySem.W.notCls; rw [hd] <;> rfl, by rw [hz.2]; exact ho⟩, hl, rel⟩
/-- e.n, e an error of the program's own -/
def tEf (K : PySem.W.Frag) (n : Str) (te : TE) : TE := fun σ H Q => te σ H fun x H1 => ∃ (a C dd : Addr) (fs : List (Str × V)) (v : V), x = .ref a ∧ ExcT K C ∧ PySem.W.findIn K (.ref C) n = some none ∧ H1 a = some (EXO C a (some dd)) ∧ XD H1 dd fs ∧ fs.lookup n = some v ∧ Q v H1
theorem pe_ef {e : Expr} {te : TE} {pos : Pos} {n : Str} (he : PE X e te) (hb : attributeBase e n X.env (eval e X.env) = eval e X.env := by rfl) : PE X (.Attribute e n pos) (tEf X.K n te) := by
  refine ⟨fun pins s σ H Q I h => attr_of hb (thn (he.run pins s σ H _ I h) fun u s1 hh => ?_)⟩
  obtain ⟨x, H1, I1, rx, a, C, dd, fs, v, ex, T, hno, ea, ed, l, q⟩ := hh
  subst ex
  obtain rfl : u = Value.ref a := rx
  obtain ⟨oe, od, mA, J, hl, hr⟩ := inst_of I1 ea ed
  obtain ⟨z, hz, rz⟩ := RelO.some_of (v := v) (o := mA n) (by rw [← l]; exact hr n)
  exact HandSPX.exc_get I1.kIn J T.ga T.gg T.be (PySem.W.findObj_own T.hd hno rfl (by rw [hl, hz])) (handed_of rz) ⟨v, H1, I1.tok _, rz, q⟩

/-- C(e, ..) as a value: a new error -/
def tOexV (C : Addr) (sp : Sp) (dvs : List V) (ta : TA) : TE := fun σ H Q => ta σ H fun vs H1 => vs.length ≤ 1000 ∧ ∀ a, H1 a = none → sp (.ref a :: (vs ++ dvs)) (upd H1 a (exo a C none))
  (fun v H2 => v = .non ∧ ∃ d, H2 a = some (exo a C (some d)) ∧ Q (.ref a) (upd H2 a (EXO C a (some d)))) (fun _ _ _ => False)
theorem retrack {C a d : Addr} (I : Inv X pins σ H s) (e : H a = some (exo a C (some d))) : Inv X pins σ (upd H a (EXO C a (some d))) s := by
  obtain ⟨t1, ha⟩ := exo_at I.hok e
  have J := I.write (t' := s.toks) (h' := s.heap) (x := a) (e := a) (o := EXO C a (some d)) (by rw [e]; exact True.intro) (.inl rfl) (fun _ _ _ q => q) ⟨_, ha⟩ (exo_okE ha ⟨rfl, rfl⟩ rfl)
  exact J
theorem pe_oex {cx : CXT} {x : Str} {C fI : Addr} {k : Nat} {fd : FuncData} {ps : List Str} {sp : Sp} {ds : List Value} {dvs : List V} {e : Expr} {es : List Expr} {ta : TA} {p pos : Pos} (T : OexC X.K C) (iC : PySem.W.findIn X.K (.ref C) "__init__" = some (some (.ref fI)))
    (tI : PySem.W.typeIn X.K (.ref fI) = some (.type "function")) (F1 : FnOk X.prog X.w X.K X.mg X.base cx k fI fd ps sp) (hr : Room (k + 1) X.A) (hb : Binds X.K fd ps ds) (hd : Vals dvs ds) (hx : Passes cx X (fun _ _ _ => False)) (hg : Gl X x)
    (hm : X.mg x = some (.ref C)) (ha : PA X (e :: es) ta) (hdb : (x == ("__debug__" : Str)) = false := by decide) (he : starEach (e :: es) X.env = (false, eval e X.env) :: starEach es X.env := by rfl) (hpl : (backTo pos (starEach es X.env)).any (·.1) = false := by rfl) :
    PE X (.Call (.Name x p) (e :: es) [] pos) (tOexV C sp dvs ta) := by
  refine ⟨fun pins s σ H Q I h => ?_⟩
  obtain ⟨nm, q, N, bs, bm, sn, sub, ab, col, dd, k0, k1, k2, k3, k5, hC, hbm⟩ := T.cls
  refine wpAny_Call_Name_kw (ld_glob I hg hm ?_ hdb)
  refine PySem.W.callWith_K (h₀ := X.base) I.ok.mod.kin T.kC (thn (ha.run pos pins s σ H _ I h) fun us s1 ⟨vs, H1, I1, r1, hz, q1⟩ => ⟨I1.kIn, ?_⟩) he hpl
  show wpAny _ _ (call (.ref C) us) _ _ _
  obtain ⟨hp, g, dr, tk, os⟩ := s1
  obtain ⟨a, hA⟩ : ∃ a, a = hp.objs.size + 1 := ⟨_, rfl⟩
  have hsz : hp.objs.size ≤ a := by rw [hA]; exact Nat.le_succ _
  have hq := q1 a (I1.hok.fresh hsz)
  have kk : ∀ b o, hp.get? b = some o → ((hp.push (PySem.W.kdv_tup us)).push (PySem.HandSPX.excO C hp.objs.size)).get? b = some o := fun b o e => Heap.get?_push_of_some _ (Heap.get?_push_of_some _ e)
  have hget : ((hp.push (PySem.W.kdv_tup us)).push (PySem.HandSPX.excO C hp.objs.size)).get? a = some (PySem.HandSPX.excO C hp.objs.size) := by rw [hA]; heap_get
  have I2 : Inv X pins σ (upd H1 a (exo a C none)) ⟨(hp.push (PySem.W.kdv_tup us)).push (PySem.HandSPX.excO C hp.objs.size), g, dr, tk, os⟩ :=
    I1.laid (t' := tk) (a := a) (o := exo a C none) (h' := (hp.push (PySem.W.kdv_tup us)).push (PySem.HandSPX.excO C hp.objs.size)) kk hsz (exo_ok hget)
  have r2 : Vals (V.ref a :: (vs ++ dvs)) (Value.ref a :: (us ++ ds)) := .cons rfl (r1.append hd)
  have hl : (Value.ref a :: us ++ ds).length = ps.length := by
    have e := r2.length
    rw [F1.len _ _ _ _ hq] at e
    exact e.symm
  have hus : us.length ≤ sizeLine := by
    rw [← Paired.length r1, sizeLine_eq]
    omega
  have core := F1.run _ X.stack _ _ ⟨Value.ref a :: us, []⟩ (Value.ref a :: (us ++ ds)) _ _ (fun _ _ _ => False) (hr.make C us []) (I2.env0.make C us []) (hb _ (Value.ref a :: us) I2.kIn hl) r2 hq
  rw [hA] at core
  refine wpAny_call (PySem.HandSPX.call_own F.excBase_ValueError (fun Y => PySem.HandSPX.refsVE_contains Y bm hbm) (I1.kIn _ _ hC) (PySem.W.looks_findIn I1.kIn iC) (fun self => PySem.W.bind_fn I1.kIn self tI) hus (codeAny_mono core fun r s' hq' => ?_))
  rw [← hA] at hq' ⊢
  cases r with
  | error er => exact hx pins σ _ _ er s' I2 hq'
  | ok fl =>
    cases fl with
    | ret u =>
      obtain ⟨v, H2, os2, bare2, un2, hok2, rv, ev, d, ea, q2⟩ := hq'
      subst ev
      have J : Inv X pins σ H2 s' := I2.call' (ch := []) os2 un2 hok2 bare2 (fun _ z => nomatch z)
      exact ⟨rv, .ref a, _, retrack J ea, rfl, q2⟩
    | next => exact False.elim hq'
    | brk => exact False.elim hq'
    | cont => exact False.elim hq'
end
end KZ
end

section
set_option Elab.async false
set_option linter.all false
set_option maxRecDepth 100000
set_option maxHeartbeats 4000000
/-! a caught error that is kept: try: .. except x as n: m = n -/
namespace KZ
open PySem PySem.Spec PyProof.Rows L2
section
variable {X : Cx} {pins : List (Addr × Obj)} {σ : L2.St} {H : Hp} {s : Shared}
/-- an object of ours that isn't tracked yet, an error, is tracked from here on -/
theorem track {a C : Addr} {d : Option Addr} {oe : Obj} {vs : Array Value} (I : Inv X pins σ H s) (ha : s.heap.get? a = some oe) (hz : Zc (.ref C) d oe) (hd : oe.data = .fields vs) (na : H a = none)
    (n0 : X.s_0.heap.get? a = none) (np : ∀ p ∈ X.pn ++ pins, p.1 ≠ a) (nL : a ≠ X.env.locals) : Inv X pins σ (upd H a (EXO C a d)) s := by
  have nea : ∀ {b : Addr} {o : HO}, H b = some o → b ≠ a := fun {b o} q => ne_of_none q na
  have ne0 : ∀ {b : Addr} {o : Obj}, X.s_0.heap.get? b = some o → b ≠ a := fun {b o} q z => by
    rw [z, n0] at q
    cases q
  refine ⟨I.ok, I.os, I.bare, ⟨I.base.keep, I.base.slot, fun b o q n hb => ?_, I.base.there, fun b xs q => ?_, fun b o u q => ?_, fun b ps q => ?_⟩, I.loc, I.cell, ?_, fun x c e => ?_, fun p hp => ?_, fun b o q => ?_, I.len⟩
  · rw [upd_ne (ne0 q)]
    exact I.base.free b o q n hb
  · have z := I.base.tups b xs q
    rw [upd_ne (nea z)]
    exact z
  · have z := I.base.frzs b o u q
    rw [upd_ne (nea z)]
    exact z
  · obtain ⟨m, z⟩ := I.base.tbls b ps q
    exact ⟨m, by rw [upd_ne (nea z)]; exact z⟩
  · rw [upd_ne (Ne.symm nL)]
    exact I.free
  · obtain ⟨v, oc, ho, hc⟩ := I.cell x c e
    have nc : c ≠ a := fun z => by
      rw [z, ha] at ho
      cases ho
      rw [hd] at hc
      cases hc
    rw [upd_ne nc]
    exact I.freeC x c e
  · obtain ⟨h1, h2, h3⟩ := I.pin p hp
    exact ⟨h1, by rw [upd_ne (np p hp)]; exact h2, h3⟩
  · by_cases hb : b = a
    · subst hb
      rw [upd_same] at q
      cases q
      exact exo_okE ha hz hd
    · rw [upd_ne hb] at q
      exact (I.hok b o q).stay (fun _ _ _ z => z) (fun c z => by rw [upd_ne (nea z)]; exact z) fun c xs z => by rw [upd_ne (nea z)]; exact z

/-- what the clause wishes of an error of the body: n is slot i, m slot j -/
def wKeep (K : PySem.W.Frag) (c : Value) (i j : Nat) (Wo : WX) (D : Ends) : WX := fun cls d σ H =>
  ∃ C, cls = .ref C ∧ ∃ b, PySem.W.exmOne K cls c = some b ∧ (b = true → ∀ a, H a = none → D.nx (((σ.set i (some (.ref a))).set j (some (.ref a))).set i none) (upd H a (EXO C a d))) ∧ (b = false → Wo cls d σ H)
variable {x n m : Str} {c : Value} {i j : Nat} {body : List Stmt} {np np2 mp ap pos pos' : Pos} {tb : WX → TS} {Wo : WX}
theorem ps_try_keep (hs : X.stack = X.env :: X.outer) (hf : X.env.frame = some X.env.locals) (hex : X.ex = []) (hN : X.N.Nodup) (hi : X.N[i]? = some n) (hln : X.env.kindOf n = some .local) (hj : X.N[j]? = some m) (hlm : X.env.kindOf m = some .local)
    (hc : Names X x c) (tk : Takes X Wo) (hsw : swapsWith (.Name n np2) (some (.Name m mp)) ap.line X.env = pure false) (hdn : (n == ("__debug__" : Str)) = false) (hcn : (n == ("__classdict__" : Str)) = false)
    (hb : ∀ (W : WX) (pn : List (Addr × Obj)) (xe : Value → Shared → Prop), Takes (X.tr pn xe) W → PassesOwn (model X.prog X.w) X.A X.env xe → PSs (X.tr pn xe) body (tb W)) :
    PS X (.Try body [.ExceptHandler (some (.Name x np)) (some n) [.Assign [.Name m mp] (.Name n np2) ap] pos'] [] [] pos) (fun D σ H => tb (wKeep X.K c i j Wo D) D σ H) := by
  refine ⟨fun pins s σ H D I h => ?_⟩
  have ok0 := I.ok
  have hfr : X.A.frames = some (X.env :: X.outer) := ok0.frames.trans (congrArg some hs)
  refine wpAny_Try_except ?_
  let Wl := wKeep X.K c i j Wo D
  let hd1 : ExceptHandler := .ExceptHandler (some (.Name x np)) (some n) [.Assign [.Name m mp] (.Name n np2) ap] pos'
  refine wpAny_mono ((hb Wl (X.pn ++ pins) (fun e s₁ => wpAny (model X.prog X.w) X.A (noteFrame e X.env) (fun _ s₂ => wpAny (model X.prog X.w) X.A (setFlight e none) (fun _ s₃ => wpAny (model X.prog X.w) X.A (handleBy e X.env [hd1]) (SP X pins D) X.xe s₃) X.xe s₂) X.xe s₁)
    (fun u s' xx => ?_) PassesOwn.looking).run [] s σ H D (I.toTry _) h) (fun f s1 hsp => ?_) (fun e s1 he => he)
  · obtain ⟨a, B, sI, pins', σ', H', cls, d, rfl, J', nb, up, sky, na, os, ag, C, rfl, b, hb1, hyes, hno⟩ := xx
    have J : Inv X pins σ' H' sI := J'.ofTry ok0
    have sky' : Sky B (X.env :: X.outer) a (Zc (.ref C) d) X.env.locals s'.heap := hs ▸ sky
    show wpAny (model X.prog X.w) X.A (noteFrame (.ref a) X.env) _ _ _
    refine Sky.land Zc.steady hfr hf sky' fun h3 fl3 up3 => ?_
    have J3 : Inv X pins σ' H' { s' with heap := h3 } := J.landed nb fl3.1 (up.trans up3) os ag
    obtain ⟨oe3, vs3, he3, hz3, hd3⟩ := fl3.there
    have nfr : a ∉ frs (X.env :: X.outer) := fun hm => by
      obtain ⟨_, o', e', hnf⟩ := fl3.2.2.1.mem hm
      rw [he3] at e'
      cases e'
      exact hnf _ hd3
    have nL : a ≠ X.env.locals := fun z => nfr (List.mem_filterMap.mpr ⟨X.env, List.mem_cons_self, by rw [hf, z]⟩)
    have nF : a ∉ X.fs := fun hm => by
      obtain ⟨ev, hev, q⟩ := List.mem_filterMap.mp hm
      exact nfr (List.mem_filterMap.mpr ⟨ev, List.mem_cons_of_mem _ hev, q⟩)
    have nst : a ∉ frs X.stack := by rw [hs]; exact nfr
    have nB : B.get? a = none := fl3.2.1
    have nI : sI.heap.get? a = none := by
      cases q : sI.heap.get? a with
      | none => rfl
      | some o =>
        have z := nb a o q nst
        rw [nB] at z
        cases z
    have n0 : X.s_0.heap.get? a = none := by
      cases q : X.s_0.heap.get? a with
      | none => rfl
      | some o =>
        obtain ⟨o', z⟩ := J.base.there a o q (by rw [hex]; exact fun z => nomatch z)
        rw [nI] at z
        cases z
    have npin : ∀ p ∈ X.pn ++ pins, p.1 ≠ a := fun p hp z => by
      have q := (J.pin p hp).1
      rw [z, nI] at q
      cases q
    have S3 := J3.suite he3 hd3 na nL nF
    refine wpAny_handleBy_cons (codeAny_handlers_test ?_) (by intro q; cases q)
    have LT : PySem.W.Looks (model X.prog X.w) h3 (typeOf (.ref a)) (.ref C) := fun A Q E s k q => wpAny_typeOf_ref (k _ _ he3) (by rw [hz3.1]; exact q)
    have LM := PySem.W.exm_one (M := model X.prog X.w) (J3.kIn) LT hb1
    have test : ∀ {Q : Value → Shared → Prop} {E : Value → Shared → Prop}, Q c { s' with heap := h3 } → wpAny (model X.prog X.w) (X.A.mark (some (.ref a))) (eval (.Name x np) X.env) Q E { s' with heap := h3 } := fun {Q E} q => by
      rcases hc with ⟨hg, hdbg, hm' | ⟨hm', hv, hnn⟩⟩
      · exact ld_glob (X := X.suite a ((a, oe3) :: (X.pn ++ pins))) S3 hg hm' q hdbg
      · exact ld_blt (X := X.suite a ((a, oe3) :: (X.pn ++ pins))) S3 hg hm' hv q hnn hdbg
    refine test (LM.here ?_)
    cases b with
    | true =>
      refine codeAny_handlers_suite_as (HandSPX.lands_againZ fl3 fun h4 fl4 up4 => ?_)
      have J4 : Inv X pins σ' H' { s' with heap := h4 } := J.landed nb fl4.1 ((up.trans up3).trans up4) os ag
      obtain ⟨oe4, vs4, he4, hz4, hd4⟩ := fl4.there
      have S4 := J4.suite he4 hd4 na nL nF
      have hi' : i < σ'.length := by rw [J4.len]; exact (List.getElem?_eq_some_iff.mp hi).1
      refine store_ok (X := X.suite a ((a, oe4) :: (X.pn ++ pins))) (v := .ref a) S4 hN hi (.inl hln) rfl (fun s5 S5 => ?_) (.inr hln)
      have R := pss_one (X := X.suite a ((a, oe4) :: (X.pn ++ pins))) (ps_asg (X := X.suite a ((a, oe4) :: (X.pn ++ pins))) (pos := ap) (pe_var (i := i) (pos := np2) hi (.inl hln) hdn hcn) (pg_name (i := j) (pos := mp) hN hj (.inl hlm) (.inr hlm)) hsw)
      let D' : Ends := { nx := fun σ6 H6 => σ6 = (σ'.set i (some (.ref a))).set j (some (.ref a)) ∧ H6 = H', rt := fun _ _ => False }
      refine wpAny_mono (R.run [] s5 _ H' D' S5 ?_) (fun f s6 hsp => ?_) (fun _ _ z => False.elim z)
      · exact ⟨.ref a, List.getElem?_set_self hi', rfl, rfl⟩
      · cases f with
        | next =>
          obtain ⟨σ6, H6, S6, rfl, rfl⟩ := hsp
          have he6 := (S6.pin (a, oe4) (List.mem_append_left _ List.mem_cons_self)).1
          have T6 := track (S6.unsuite ok0) he6 hz4 hd4 na n0 npin nL
          exact gone_ok T6 hN hi hln fun s7 J7 => ⟨_, _, J7, hyes rfl a na⟩
        | brk => obtain ⟨_, _, _, z⟩ := hsp; exact z.elim
        | cont => obtain ⟨_, _, _, z⟩ := hsp; exact z.elim
        | ret u => obtain ⟨_, _, _, _, _, z⟩ := hsp; exact z.elim
    | false =>
      show wpAny _ X.A (handleBy (.ref a) X.env []) _ _ _
      refine wpAny_handleBy_nil ?_
      obtain ⟨k1, k2, k3, oe, vs, T, oT, ts', he, hz, hd, h1, hr⟩ := id fl3
      unfold PySem.passOn
      refine wpAny_bind (wpAny_field he hd h1 ?_)
      rw [if_neg (show ¬ ((Value.ref T == Value.none) = true) from by simp)]
      have fin : wpAny (model X.prog X.w) X.A (setFlight (.ref a) X.env.frame) (fun _ s4 => wpAny (model X.prog X.w) X.A (throw (.ref a) : Sem Flow) (SP X pins D) X.xe s4) X.xe { s' with heap := h3 } := by
        rw [hf]
        refine HandSPX.setFlight_upZ fl3 fun h4 hh4 up4 => wpAny_throw (tk _ _ ⟨a, B, sI, pins, σ', H', .ref C, d, rfl, J, nb, (up.trans up3).trans up4, .inr (.inr (by rw [hs]; exact hh4)), na, os, ag, hno rfl⟩)
      first
        | exact wpAny_bind (wpAny_pure (wpAny_bind fin))
        | exact wpAny_bind fin
  · cases f with
    | next =>
      obtain ⟨σ', H', J', q⟩ := hsp
      exact wpAny_execs_nil ⟨σ', H', J'.ofTry ok0, q⟩
    | ret u =>
      obtain ⟨v, σ', H', J', r, q⟩ := hsp
      exact ⟨v, σ', H', J'.ofTry ok0, r, q⟩
    | _ =>
      obtain ⟨σ', H', J', q⟩ := hsp
      exact ⟨σ', H', J'.ofTry ok0, q⟩

/-- isinstance(e, c), e a known error of the program's own -/
def rIsX (K : PySem.W.Frag) : List V → Hp → VK → Prop := fun xs H Q => ∃ (a C dd : Addr) (fs : List (Str × V)) (c : V) (u : Value) (b : Bool), xs = [.ref a, c] ∧ ClsV c u ∧ ExcT K C ∧ H a = some (EXO C a (some dd)) ∧ XD H dd fs ∧ PySem.W.kitOne K (.ref C) u = some b ∧ Q (.bl b) H
theorem call_isX : CallR X (.builtin "isinstance") (rIsX X.K) := by
  intro pins s σ H xs us Q I r h
  obtain ⟨a, C, dd, fs, c, u, b, rfl, k, T, ea, ed, e, q⟩ := h
  obtain ⟨u1, u2, rfl, r1, r2⟩ := vals2 r
  have e2 := k.eq r2
  subst e2
  obtain rfl : u1 = Value.ref a := r1
  obtain ⟨oe, od, mA, J, _, _⟩ := inst_of I ea ed
  have hcl : (PySem.W.clsIn X.K C).isSome = true := by
    obtain ⟨cd, hC, _⟩ := PySem.W.any_some T.hd
    rw [hC]
    rfl
  exact PySem.W.kia_one (PySem.W.kitx_exc hcl T.ga T.gg T.be T.kl T.ge T.tk T.mo) I.kIn J e (fun z => nomatch z) fun tk => ⟨.bl b, H, I.tok tk, rfl, q⟩
end
end KZ
end

section
set_option Elab.async false
set_option linter.all false
set_option maxRecDepth 100000
set_option maxHeartbeats 4000000
/-! calls with keywords alone: of defs, of own errors -/
namespace PySem
namespace KZ5
open PySem.HandSPX Builtin Builtin.ObjectAttr
section
variable {M : Model} {A : Around} {E : Value → Shared → Prop} {h : Heap} {g : Array GenState} {d : Drawn} {t : Nat} {os : OsState} {prog : Program} {w : World} {R : Result → Shared → Prop}
variable {nm q : Str} {C N : Addr} {bs bm bmB : List Value} {hdct : Bool} {sn : List Str} {sub : List Value} {ab : Bool} {col : Option Bool} {dd : Option Addr} {k0 k1 k2 k3 k5 : Option Value} {B newId initId : String} {kws : List (Str × Value)}
theorem check_newK (F : ExcBaseFacts B newId initId bmB) (hT : ∀ X : String, bm.contains (.type X) = bmB.contains (.type X)) {rest : List Value} {Q : Unit → Shared → Prop}
    (hC : h.get? C = some (excClassObj nm q C N bs bm hdct sn sub ab col dd k0 k1 k2 k3 k5 newId)) (hq : Q () ⟨h, g, d, t, os⟩) : wpAny M A (checkBuiltinCall newId ⟨.ref C :: rest, kws⟩) Q E ⟨h, g, d, t, os⟩ := by
  have hco : (Value.ref C :: bm).contains (.type B) = true := by rw [List.contains_cons, hT, F.hasB, Bool.or_true]
  have hst := F.noStar
  simp only [checkBuiltinCall, F.newKind, F.newSplit, F.newRow]
  repeat (first | refine wpAny_loadPart_at hC ?_ | (refine wpAny_isSubtype_exc hC ?_; rw [hco]) | refine wpAny_staticBase_exc hC ?_ | refine wpAny_madeBy_exc hC ?_ | simp only [bne_self_eq_false, Bool.false_eq_true, if_false] | wp_step)
  exact hq
theorem new_K (F : ExcBaseFacts B newId initId bmB) (hT : ∀ X : String, bm.contains (.type X) = bmB.contains (.type X))
    (hC : h.get? C = some (excClassObj nm q C N bs bm hdct sn sub ab col dd k0 k1 k2 k3 k5 newId))
    (hq : R (.ok (.ret (.ref (h.objs.size + 1)))) ⟨(h.push (W.kdv_tup [])).push (excO C h.objs.size), g, d, t, os⟩) : codeAny (model prog w) A (.builtin newId ⟨[.ref C], kws⟩) R ⟨h, g, d, t, os⟩ := by
  have hends := F.ends
  have hc1 : (Value.ref C :: bm).contains (.type B) = true := by rw [List.contains_cons, hT, F.hasB, Bool.or_true]
  have hc2 : (Value.ref C :: bm).contains (.type "AttributeError") = false := by rw [List.contains_cons, hT, F.noAttr]; rfl
  have hc3 : (Value.ref C :: bm).contains (.type "NameError") = false := by rw [List.contains_cons, hT, F.noName]; rfl
  refine codeAny_builtinAt F.entry ?_
  unfold Builtin.«BaseException.__new__»
  refine wpAt_bind ?_
  show wpAt _ _ _ (stack >>= _) _ _ _
  refine wpAt_bind (wpAt_stack fun p below => wpAt_of_wpAny ?_)
  wp_walk
  refine wpAt_of_wpAny ?_
  rw [F.owner]
  repeat (first | with_reducible refine wpAny_madeHere_exc F.canon hC ?_ | with_reducible refine wpAny_loadPart_at hC ?_ | (with_reducible refine wpAny_isSubtype_exc hC ?_; first | rw [hc1] | rw [hc2] | rw [hc3]) | wp_step)
  show R _ _
  rw [Heap.size_push]
  exact hq
theorem type_call_K (F : ExcBaseFacts B newId initId bmB) (hT : ∀ X : String, bm.contains (.type X) = bmB.contains (.type X)) {fI : Addr} {Q : Fin → Shared → Prop}
    (hC : h.get? C = some (excClassObj nm q C N bs bm hdct sn sub ab col dd k0 k1 k2 k3 k5 newId))
    (hi : W.Looks (model prog w) h (typeLookup (.ref C) "__init__") (some (.ref fI))) (hb : ∀ self, W.Looks (model prog w) h (bindSpecial (.ref fI) self) (.ref fI, [self]))
    (hq : codeAny (model prog w) A (.call (.ref fI) ⟨[.ref (h.objs.size + 1)], kws⟩)
      (fun r s' => match r with | .ok (.ret v) => v = .none ∧ Q (.done (.ret (.ref (h.objs.size + 1)))) s' | .ok _ => False | .error e => E e s') ⟨(h.push (W.kdv_tup [])).push (excO C h.objs.size), g, d, t, os⟩) :
    wpAny (model prog w) A (Builtin.«type.__call__» ⟨[.ref C], kws⟩) Q E ⟨h, g, d, t, os⟩ := by
  repeat (first | with_reducible refine wpAny_loadPart_at hC ?_ | with_reducible refine wpAny_madeBy_exc hC ?_ | wp_step)
  refine codeAny_call_builtin_code (Code.quiet_builtin _ F.quiet) (check_newK F hT hC ?_)
  refine new_K F hT hC ?_
  show wpAny _ _ _ _ _ _
  have k : ∀ b o, h.get? b = some o → ((h.push (W.kdv_tup [])).push (excO C h.objs.size)).get? b = some o := fun b o e => Heap.get?_push_of_some _ (Heap.get?_push_of_some _ e)
  have hC2 := k _ _ hC
  have hget : ((h.push (W.kdv_tup [])).push (excO C h.objs.size)).get? (h.objs.size + 1) = some (excO C h.objs.size) := by heap_get
  have hcC : (Value.ref C :: bm).contains (.ref C) = true := by simp
  have i1 := hi.keeps k
  have b1 := (hb (.ref (h.objs.size + 1))).keeps k
  unfold isInstance
  repeat (first | with_reducible refine wpAny_loadPart_at hget ?_ | (with_reducible refine wpAny_isSubtype_exc hC2 ?_; rw [hcC]) | wp_step)
  show wpAny _ _ (typeLookup (.ref C) _) _ _ _
  refine i1.at (wpAny_holding (wpAny_bind (b1.at ?_)))
  refine wpAny_bind (wpAny_call (codeAny_mono hq fun r s' z => ?_))
  rcases r with e | (v | _ | _ | _) <;> first | exact z | exact z.elim | skip
  obtain ⟨rfl, z⟩ := z
  first
    | exact wpAny_pure (wpAny_pure z)
    | (wp_walk; exact z)
theorem check_type_K (hC : h.get? C = some (excClassObj nm q C N bs bm hdct sn sub ab col dd k0 k1 k2 k3 k5 newId)) {Q : Unit → Shared → Prop}
    (hq : Q () ⟨h, g, d, t, os⟩) : wpAny M A (checkBuiltinCall "type.__call__" ⟨[.ref C], kws⟩) Q E ⟨h, g, d, t, os⟩ := by
  have f3 := tc_sub
  have hT : (⟨h, g, d, t, os⟩ : Shared).TypeIs (.ref C) "type" := ⟨_, hC, rfl⟩
  simp only [checkBuiltinCall, tc_kind, tc_split]
  repeat (any_goals (first | assumption | with_reducible refine wpAny_loadPart_at hC ?_ | with_reducible refine wpAny_onRaise ?_ | with_reducible refine wpAny_map ?_ | wp_step))
theorem call_K (F : ExcBaseFacts B newId initId bmB) (hT : ∀ X : String, bm.contains (.type X) = bmB.contains (.type X)) {fI : Addr}
    (hC : h.get? C = some (excClassObj nm q C N bs bm hdct sn sub ab col dd k0 k1 k2 k3 k5 newId))
    (hi : W.Looks (model prog w) h (typeLookup (.ref C) "__init__") (some (.ref fI))) (hb : ∀ self, W.Looks (model prog w) h (bindSpecial (.ref fI) self) (.ref fI, [self]))
    (hq : codeAny (model prog w) (A.under (.builtin "type.__call__" ⟨[.ref C], kws⟩)) (.call (.ref fI) ⟨[.ref (h.objs.size + 1)], kws⟩) (W.InitBack (h.objs.size + 1) R) ⟨(h.push (W.kdv_tup [])).push (excO C h.objs.size), g, d, t, os⟩) :
    codeAny (model prog w) A (.call (.ref C) ⟨[], kws⟩) R ⟨h, g, d, t, os⟩ := by
  have f1 := tc_lookup
  have f2 := tc_bind (.ref C)
  have hTy : (⟨h, g, d, t, os⟩ : Shared).TypeIs (.ref C) "type" := ⟨_, hC, rfl⟩
  refine codeAny_of_tree ?_
  show wpAny _ _ (callAny (.ref C) _) _ _ _
  repeat (any_goals (first | assumption | with_reducible refine wpAny_loadPart_at hC ?_ | wp_step))
  refine ⟨rfl, ?_⟩
  refine codeAny_call_builtin_at (Code.quiet_builtin _ (by decide +kernel)) entry_typeCall (check_type_K hC (type_call_K F hT hC hi hb ?_))
  refine codeAny_mono hq fun r s' z => ?_
  rcases r with e | (v | _ | _ | _) <;> exact z
end
end KZ5
end PySem
namespace KZ
open PySem PySem.Spec PyProof.Rows L2
section
variable {X : Cx} {cx : CXT} {k : Nat} {f C fI : Addr} {fd : FuncData} {ps ks : List Str} {sp : Sp} {E : XK} {x : Str} {p pos : Pos} {kws : List Keyword} {tk : TA} {g : List Value → List Value → List Value} {gV : List V → List V → List V}
/-- f(k = v, ..) -/
theorem pe_callK0 (F : FnOk X.prog X.w X.K X.mg X.base cx k f fd ps sp) (hr : Room k X.A) (hg : Gl X x) (hm : X.mg x = some (.ref f)) (hk : PySem.W.keepIn X.K (.ref f) = true) (hb : KBinds X.K fd ps ks g gV) (hx : Passes cx X E) (hkw : PK X kws tk)
    (hall : (backToKw pos (keywordEach kws X.env)).all (·.1.isSome) = true := by rfl) (hks : (backToKw pos (keywordEach kws X.env)).filterMap (·.1) = ks := by rfl) (hdb : (x == ("__debug__" : Str)) = false := by decide)
    (hpl : ((backTo pos (starEach [] X.env)).any (·.1) || (backToKw pos (keywordEach kws X.env)).any (·.1.isNone)) = false := by rfl) : PE X (.Call (.Name x p) [] kws pos) (tCallK sp gV E tNil tk) :=
  ⟨fun pins s σ H Q I h => wpAny_Call_Name_kw (ld_glob I hg hm (PySem.W.callWith_KW0 (h₀ := X.base) I.ok.mod.kin hk hall (thn (hkw.run pos pins s σ H _ I h) fun ws s2 ⟨zs, H2, I2, rz, q2⟩ => ⟨I2.kIn, by
    rw [hks]
    exact run_fnk (us := []) (vs := []) F hr hb hx I2 .nil rz q2⟩) hpl) hdb)⟩
/-- C(k = v, ..), an own error -/
def tOexK (C : Addr) (sp : Sp) (gV : List V → List V → List V) (tk : TA) : TE := fun σ H Q => tk σ H fun zs H1 => ∀ a, H1 a = none → sp (gV [.ref a] zs) (upd H1 a (exo a C none))
  (fun v H2 => v = .non ∧ ∃ d, H2 a = some (exo a C (some d)) ∧ Q (.ref a) (upd H2 a (EXO C a (some d)))) (fun _ _ _ => False)
theorem pe_oexK0 (T : OexC X.K C) (iC : PySem.W.findIn X.K (.ref C) "__init__" = some (some (.ref fI))) (tI : PySem.W.typeIn X.K (.ref fI) = some (.type "function")) (F1 : FnOk X.prog X.w X.K X.mg X.base cx k fI fd ps sp) (hr : Room (k + 1) X.A)
    (hb : KBinds X.K fd ps ks g gV) (hx : Passes cx X (fun _ _ _ => False)) (hg : Gl X x) (hm : X.mg x = some (.ref C)) (hkw : PK X kws tk)
    (hall : (backToKw pos (keywordEach kws X.env)).all (·.1.isSome) = true := by rfl) (hks : (backToKw pos (keywordEach kws X.env)).filterMap (·.1) = ks := by rfl) (hdb : (x == ("__debug__" : Str)) = false := by decide)
    (hpl : ((backTo pos (starEach [] X.env)).any (·.1) || (backToKw pos (keywordEach kws X.env)).any (·.1.isNone)) = false := by rfl) : PE X (.Call (.Name x p) [] kws pos) (tOexK C sp gV tk) := by
  refine ⟨fun pins s σ H Q I h => ?_⟩
  obtain ⟨nm, q, N, bs, bm, sn, sub, ab, col, dd, k0, k1, k2, k3, k5, hC, hbm⟩ := T.cls
  refine wpAny_Call_Name_kw (ld_glob I hg hm ?_ hdb)
  refine PySem.W.callWith_KW0 (h₀ := X.base) I.ok.mod.kin T.kC hall (thn (hkw.run pos pins s σ H _ I h) fun ws s1 ⟨zs, H1, I1, rz, q1⟩ => ⟨I1.kIn, ?_⟩) hpl
  rw [hks]
  show wpAny _ _ (call (.ref C) [] (ks.zip ws)) _ _ _
  obtain ⟨hp, gg, dr, tk, os⟩ := s1
  obtain ⟨a, hA⟩ : ∃ a, a = hp.objs.size + 1 := ⟨_, rfl⟩
  have hsz : hp.objs.size ≤ a := by rw [hA]; exact Nat.le_succ _
  have hq := q1 a (I1.hok.fresh hsz)
  have kk : ∀ b o, hp.get? b = some o → ((hp.push (PySem.W.kdv_tup [])).push (PySem.HandSPX.excO C hp.objs.size)).get? b = some o := fun b o e => Heap.get?_push_of_some _ (Heap.get?_push_of_some _ e)
  have hget : ((hp.push (PySem.W.kdv_tup [])).push (PySem.HandSPX.excO C hp.objs.size)).get? a = some (PySem.HandSPX.excO C hp.objs.size) := by rw [hA]; heap_get
  have I2 : Inv X pins σ (upd H1 a (exo a C none)) ⟨(hp.push (PySem.W.kdv_tup [])).push (PySem.HandSPX.excO C hp.objs.size), gg, dr, tk, os⟩ :=
    I1.laid (t' := tk) (a := a) (o := exo a C none) (h' := (hp.push (PySem.W.kdv_tup [])).push (PySem.HandSPX.excO C hp.objs.size)) kk hsz (exo_ok hget)
  have r2 := hb.rel (vs := [V.ref a]) (us := [Value.ref a]) (.cons rfl .nil) rz
  have hl : (g [Value.ref a] ws).length = ps.length := by
    rw [← r2.length]
    exact F1.len _ _ _ _ hq
  have core := F1.run _ X.stack _ _ ⟨[Value.ref a], ks.zip ws⟩ (g [Value.ref a] ws) _ _ (fun _ _ _ => False) (hr.make C [] (ks.zip ws)) (I2.env0.make C [] (ks.zip ws)) (hb.to _ [Value.ref a] ws I2.kIn hl) r2 hq
  rw [hA] at core
  refine wpAny_call (PySem.KZ5.call_K F.excBase_ValueError (fun Y => PySem.HandSPX.refsVE_contains Y bm hbm) (I1.kIn _ _ hC) (PySem.W.looks_findIn I1.kIn iC) (fun self => PySem.W.bind_fn I1.kIn self tI) (codeAny_mono core fun r s' hq' => ?_))
  rw [← hA] at hq' ⊢
  cases r with
  | error er => exact hx pins σ _ _ er s' I2 hq'
  | ok fl =>
    cases fl with
    | ret u =>
      obtain ⟨v, H2, os2, bare2, un2, hok2, rv, ev, d, ea, q2⟩ := hq'
      subst ev
      have J : Inv X pins σ H2 s' := I2.call' (ch := []) os2 un2 hok2 bare2 (fun _ z => nomatch z)
      exact ⟨rv, .ref a, _, retrack J ea, rfl, q2⟩
    | _ => exact False.elim hq'
end
end KZ
end

section
set_option Elab.async false
set_option linter.all false
set_option maxRecDepth 100000
set_option maxHeartbeats 4000000
/-! the law's own call, its promise told where no repr is under way, the modules' dict known -/
namespace KZ
open PySem PySem.Spec PyProof.Rows L2

section
variable {P : Program} {w : World} {K : PySem.W.Frag} {mg mb : Str → Option Value} {k : Nat} {fa a : Addr} {cs : List (Addr × Addr)} {fd : FuncData} {x : Str} {sp : Sp} {st : Shared} {vs : List Value} {ns : List Int}
/-- the head's heap, as the law's call wants it -/
structure TopAt (K : PySem.W.Frag) (mg mb : Str → Option Value) (cs : List (Addr × Addr)) (st : Shared) : Prop where
  kin : K.In st.heap
  gl : st.heap.Ns mainGlobals mg
  bl : st.heap.Ns builtinsNs mb
  bb : ∀ x : Str, x ≠ "__name__" → mb x = bootBuiltins x
  lim : st.heap.NoLimit
  mods : ∃ mm, st.heap.Ns sysModules mm
  gens : st.gens = #[]
  tabs : ∀ p ∈ cs, st.heap.get? p.2 = some { cls := .none, data := .fields #[] }
  notK : ∀ p ∈ cs, K.lookup p.2 = none
  code : ∀ p ∈ cs, PySem.W.CodeHd st.heap p.1 p.2
  bm : ∃ (bm : Addr) (ob : Obj), mg "__builtins__" = some (.ref bm) ∧ bm ≠ builtinsNs ∧ st.heap.get? bm = some ob ∧ ob.cls = .type "module" ∧ ob.dict = some builtinsNs ∧ ob.data = .plain
/-- what is tracked at the law's call: the script, where it is no object of the module, and the tables -/
def H0 (K : PySem.W.Frag) (cs : List (Addr × Addr)) (a : Addr) (vs : List Value) (ns : List Int) : Hp := fun b =>
  if b = a ∧ K.lookup a = none then some (.frz { cls := .type "list", data := .seq vs.toArray } (.lst (ns.map V.int))) else if b ∈ cs.map (·.2) then some (.tbl #[]) else none
theorem H0_not {b : Addr} (h1 : b ≠ a) (h2 : b ∉ cs.map (·.2)) : H0 K cs a vs ns b = none := by
  unfold H0
  rw [if_neg (fun z => h1 z.1), if_neg h2]
theorem tabAt (T : TopAt K mg mb cs st) {b : Addr} (hb : b ∈ cs.map (·.2)) : st.heap.get? b = some { cls := .none, data := .fields #[] } ∧ K.lookup b = none := by
  obtain ⟨p, hp, e⟩ := List.mem_map.mp hb
  subst e
  exact ⟨T.tabs p hp, T.notK p hp⟩
theorem notTab (T : TopAt K mg mb cs st) (ha : st.heap.get? a = some { cls := .type "list", data := .seq vs.toArray }) : a ∉ cs.map (·.2) := fun z => by
  have q := (tabAt T z).1
  rw [ha] at q
  cases q
theorem H0_tab (T : TopAt K mg mb cs st) (ha : st.heap.get? a = some { cls := .type "list", data := .seq vs.toArray }) {b : Addr} (hb : b ∈ cs.map (·.2)) : H0 K cs a vs ns b = some (.tbl #[]) := by
  unfold H0
  rw [if_neg (show ¬ (b = a ∧ K.lookup a = none) from fun z => notTab T ha (z.1 ▸ hb)), if_pos hb]
/-- an object that is neither a list nor an empty table is not tracked -/
theorem H0_free (T : TopAt K mg mb cs st) (ha : st.heap.get? a = some { cls := .type "list", data := .seq vs.toArray }) {b : Addr} {o : Obj} (e : st.heap.get? b = some o) (h1 : ∀ vs n, o.data ≠ .seq vs n) (h2 : o.data ≠ .fields #[]) : H0 K cs a vs ns b = none := by
  refine H0_not (fun z => ?_) fun z => ?_
  · rw [z, ha] at e
    cases e
    exact h1 _ _ rfl
  · rw [(tabAt T z).1] at e
    cases e
    exact h2 rfl
theorem H0_ok (T : TopAt K mg mb cs st) (ha : st.heap.get? a = some { cls := .type "list", data := .seq vs.toArray }) (hi : IntsAre vs ns) (hl : ns.length ≤ sizeLine) : HOk P w (H0 K cs a vs ns) st.heap := fun b u z => by
  unfold H0 at z
  split at z
  · rename_i q
    cases z
    rw [q.1]
    exact ⟨ha, by rw [List.length_map]; exact hl, vs, _, vals_ints hi, ha⟩
  · split at z
    · rename_i q
      cases z
      exact (tabAt T q).1
    · cases z
theorem H0_sq (T : TopAt K mg mb cs st) (ha : st.heap.get? a = some { cls := .type "list", data := .seq vs.toArray }) (hi : IntsAre vs ns) (hl : ns.length ≤ sizeLine) : SqL K (H0 K cs a vs ns) a (ns.map V.int) := by
  cases hk : K.lookup a with
  | none => exact .inl (.inr ⟨_, by unfold H0; rw [if_pos ⟨rfl, hk⟩]⟩)
  | some o =>
    have e := T.kin a o hk
    rw [ha] at e
    cases e
    exact .inr ⟨_, vs.toArray, _, hk, rfl, rfl, rfl, by rw [List.size_toArray, hi.length]; exact hl, by simpa using vals_ints hi⟩
theorem top_base (T : TopAt K mg mb cs st) (ha : st.heap.get? a = some { cls := .type "list", data := .seq vs.toArray }) :
    L2.Mod K mg (hidT st.heap (H0 K cs a vs ns)) ∧ ModsD (hidT st.heap (H0 K cs a vs ns)) ∧ ∀ p ∈ cs, LamX.TabB (hidT st.heap (H0 K cs a vs ns)) mg p.1 p.2 := by
  have dk : ∀ {b : Addr} {o : Obj} {es : Array DictEntry} {ep : Nat}, st.heap.get? b = some o → o.data = .dict es ep → (hidT st.heap (H0 K cs a vs ns)).get? b = some o := fun e d =>
    hidT_get e (H0_free T ha e (fun _ _ z => by rw [d] at z; cases z) fun z => by rw [d] at z; cases z)
  have nk : ∀ {b : Addr} {m : Str → Option Value}, st.heap.Ns b m → (hidT st.heap (H0 K cs a vs ns)).Ns b m := fun ⟨o, es, ep, e, d, r⟩ => ⟨o, es, ep, dk e d, d, r⟩
  have kin : K.In (hidT st.heap (H0 K cs a vs ns)) := fun b o e => hidT_get (T.kin b o e) (by
    unfold H0
    rw [if_neg (fun z => by rw [z.1, z.2] at e; cases e), if_neg (fun z => by rw [(tabAt T z).2] at e; cases e)])
  obtain ⟨mm, om, es, ep, em, dm, _⟩ := T.mods
  obtain ⟨mc, l1, l2⟩ := T.lim
  refine ⟨⟨kin, nk T.gl, ⟨mb, nk T.bl, T.bb⟩, mc, nk l1, l2⟩, ⟨om, es, ep, dk em dm, dm⟩, fun p hp => ⟨?_, ?_, fun z => ?_⟩⟩
  · obtain ⟨o, us, file, tf, flags, tg, inF, text, tt, e1, r1, r2, r3, rr⟩ := T.code p hp
    refine ⟨o, us, file, tf, flags, tg, inF, text, tt, hidT_get e1 (H0_free T ha e1 (fun _ _ z => by rw [r2] at z; cases z) fun z => ?_), r1, r2, r3, rr⟩
    rw [r2] at z
    cases z
    simp at r3
  · obtain ⟨bm, ob, b1, b2, b3, b4, b5, b6⟩ := T.bm
    have g1 : bm ≠ mainGlobals := fun q => by
      obtain ⟨o, es, ep, e, hd, _⟩ := T.gl
      rw [q, e] at b3
      cases b3
      rw [hd] at b6
      cases b6
    have g2 : bm ≠ p.2 := fun q => by
      rw [q, T.tabs p hp] at b3
      cases b3
      cases b6
    exact ⟨bm, ob, b1, b2, g1, g2, hidT_get b3 (H0_free T ha b3 (fun _ _ z => by rw [b6] at z; cases z) fun z => by rw [b6] at z; cases z), b4, b5, b6⟩
  · obtain ⟨o, es, ep, e, hd, _⟩ := T.gl
    rw [z, T.tabs p hp] at e
    cases e
    cases hd
/-- THE CALL -/
theorem law_callG (T : TopAt K mg mb cs st) (ha : st.heap.get? a = some { cls := .type "list", data := .seq vs.toArray }) (hi : IntsAre vs ns) (hl : ns.length ≤ sizeLine) (hr : Room k callerA)
    (F : ∀ base : Heap, K.In base → base.Ns mainGlobals mg → ModsD base → (∀ p ∈ cs, LamX.TabB base mg p.1 p.2) → FnG P w K mg base CX0 k fa fd [x] sp) (hbind : ∀ (s : Shared) (u : Value), BindsTo s fd ⟨[u], []⟩ [(x, u)])
    (hsp : ∀ H : Hp, (∀ p ∈ cs, H p.2 = some (.tbl #[])) → SqL K H a (ns.map V.int) → sp [.ref a] H (fun v _ => v = .bl true) fun _ _ _ => False) :
    codeAny (model P w) callerA (.call (.ref fa) ⟨[.ref a], []⟩) (fun r s' => r = .ok (.ret (.bool true)) ∧ OldK st.heap s'.heap ∧ s'.os = st.os ∧ AllBare s'.gens) st := by
  obtain ⟨hM, hD, hT⟩ := top_base (vs := vs) (ns := ns) T ha
  have ok : HOk P w (H0 K cs a vs ns) st.heap := H0_ok T ha hi hl
  have e0 : Env0 P w K mg (hidT st.heap (H0 K cs a vs ns)) callerA [] st (H0 K cs a vs ns) := ⟨rfl, hM, fun b o e => of_hidT e, Nat.le_of_eq (hidT_size _ _), trivial, (fun b hb => nomatch hb), ok, .of_eq T.gens⟩
  refine codeAny_mono ((F _ hM.kin hM.glob hD hT).runG callerA [] st _ ⟨[.ref a], []⟩ [.ref a] [.ref a] _ _ rfl hr e0 (hbind st (.ref a)) (.cons rfl .nil) (hsp _ (fun p hp => H0_tab T ha (List.mem_map.mpr ⟨p, hp, rfl⟩)) (H0_sq T ha hi hl))) fun r s' h => ?_
  cases r with
  | error e => exact (show False from h).elim
  | ok fl =>
    cases fl with
    | ret u =>
      obtain ⟨v, H', os, bare, un, ok', r', q⟩ := h
      have q' : v = .bl true := q
      subst q'
      obtain rfl : u = Value.bool true := r'
      have same : ∀ b o, b ∉ cs.map (·.2) → st.heap.get? b = some o → s'.heap.get? b = some o := fun b o nb e => by
        cases z : H0 K cs a vs ns b with
        | none => exact un.keep b o e z (fun y => nomatch (show b ∈ ([] : List Addr) from y)) (fun y => nomatch y)
        | some u =>
          have zz := z
          unfold H0 at zz
          by_cases hba : b = a ∧ K.lookup a = none
          · rw [if_pos hba] at zz
            cases zz
            obtain ⟨e1, _⟩ := ok b _ z
            obtain ⟨e2, _⟩ := ok' b _ (un.frzs b _ _ z)
            rw [e] at e1
            cases e1
            exact e2
          · rw [if_neg hba, if_neg nb] at zz
            cases zz
      have grown : ∀ p ∈ cs, ∃ more : Array Value, s'.heap.get? p.2 = some { cls := .none, data := .fields more } := fun p hp => by
        obtain ⟨more, z⟩ := un.tbls p.2 #[] (H0_tab T ha (List.mem_map.mpr ⟨p, hp, rfl⟩))
        exact ⟨_, ok' p.2 _ z⟩
      refine ⟨rfl, ⟨fun b o e => ?_, fun b o e => ?_⟩, os, bare⟩
      · by_cases hb : b ∈ cs.map (·.2)
        · obtain ⟨p, hp, ep⟩ := List.mem_map.mp hb
          obtain ⟨more, hm⟩ := grown p hp
          subst ep
          rw [T.tabs p hp] at e
          cases e
          exact .inr (.inl ⟨((T.code p hp).tab (T.tabs p hp)).isCodeTable, rfl, #[], more, rfl, by rw [Array.empty_append]; exact hm⟩)
        · exact .inl (same b o hb e)
      · by_cases hb : b ∈ cs.map (·.2)
        · obtain ⟨p, hp, ep⟩ := List.mem_map.mp hb
          obtain ⟨more, hm⟩ := grown p hp
          subst ep
          rw [T.tabs p hp] at e
          cases e
          exact ⟨_, hm⟩
        · exact ⟨o, same b o hb e⟩
    | _ => exact False.elim h
end
/-- what is known of the law's promise at the head's heap h -/
def LawG (l : PySem.W.OpenLaw) (w : World) (K : PySem.W.Frag) (k n : Nat) (x : Str) (mg : Str → Option Value) (fa : Addr) (h : Heap) : Prop :=
  ∃ (fd : FuncData) (cs : List (Addr × Addr)) (sp : Sp), (∀ p ∈ cs, h.get? p.2 = some { cls := .none, data := .fields #[] }) ∧ (∀ p ∈ cs, K.lookup p.2 = none) ∧ (∀ p ∈ cs, PySem.W.CodeHd h p.1 p.2) ∧ (∀ (s : Shared) (u : Value), BindsTo s fd ⟨[u], []⟩ [(x, u)]) ∧
    (∀ (H : Hp) (a : Addr) (ns : List Int), ns.length ≤ n → (∀ z ∈ ns, Builtin.Int.intBits z ≤ 1048576) → (∀ p ∈ cs, H p.2 = some (.tbl #[])) → SqL K H a (ns.map V.int) → sp [.ref a] H (fun v _ => v = .bl true) fun _ _ _ => False) ∧
    ∀ base : Heap, K.In base → base.Ns mainGlobals mg → ModsD base → (∀ p ∈ cs, LamX.TabB base mg p.1 p.2) → FnG l.prog w K mg base CX0 k fa fd [x] sp
theorem walkG {l : PySem.W.OpenLaw} {n k : Nat} {q : Program} {loose : List Str} {XP : (Str → Option Value) → Heap → Prop} {YP : World → Heap → Prop} {d : DefRec} {K : Params → PySem.W.Frag} {x : Str}
    (hn : l.most = some n) (hn2 : n ≤ sizeLine) (hdf : d.params.defaults = []) (hr : Room k callerA) (hno : importsNone q = true) (hY : ∀ (w : World) (h : Heap), YP w h → (K w.params).In h)
    (F : ∀ (w : World) (mg : Str → Option Value) (fa : Addr) (h : Heap), YP w h → (K w.params).In h → h.Ns mainGlobals mg → mg d.name = some (.ref fa) → LawG l w (K w.params) k n x mg fa h) :
    PySem.W.WalkO q loose XP YP l.row.toRowW d [] (fun f vs => PySem.call f vs) := by
  refine Att.attach_callB hn hdf fun w s₀ s₁ mg mb fa o pm cd doc a vs ns G Y ho hd hcd hmg hobj hints hlen hbits hg => ?_
  have kx := hY w _ Y
  obtain ⟨fd, cs, sp, hT, nT, C, hb, hsp, hF⟩ := F w mg fa _ Y kx G.T.g hmg
  have ms := (G.T.seer hno).mods
  exact law_callG ⟨kx, G.T.g, G.T.b, G.T.builtins, G.T.nolimit, ⟨_, ms.choose_spec.1⟩, hg, hT, nT, C, G.T.bmain⟩ hobj hints (Nat.le_trans hlen hn2) hr hF hb fun H hH hS => hsp H a ns hlen hbits hH hS
end KZ
end

section
set_option Elab.async false
set_option linter.all false
set_option maxRecDepth 100000
set_option maxHeartbeats 4000000
/-! own errors without a dict: made, asked by isinstance -/
namespace KZ
open PySem PySem.Spec PyProof.Rows L2
section
variable {X : Cx} {pins : List (Addr × Obj)} {σ : L2.St} {H : Hp} {s : Shared}
/-- isinstance(e, c), e an error of the program's own, with a dict or without -/
def rIsE (K : PySem.W.Frag) : List V → Hp → VK → Prop := fun xs H Q => ∃ (a C : Addr) (d : Option Addr) (c : V) (u : Value) (b : Bool), xs = [.ref a, c] ∧ ClsV c u ∧ ExcT K C ∧ H a = some (EXO C a d) ∧ (∀ dd, d = some dd → ∃ fs, XD H dd fs) ∧ PySem.W.kitOne K (.ref C) u = some b ∧ Q (.bl b) H
theorem call_isE : CallR X (.builtin "isinstance") (rIsE X.K) := by
  intro pins s σ H xs us Q I r h
  obtain ⟨a, C, d, c, u, b, rfl, k, T, ea, ed, e, q⟩ := h
  obtain ⟨u1, u2, rfl, r1, r2⟩ := vals2 r
  have e2 := k.eq r2
  subst e2
  obtain rfl : u1 = Value.ref a := r1
  have hcl : (PySem.W.clsIn X.K C).isSome = true := by
    obtain ⟨cd, hC, _⟩ := PySem.W.any_some T.hd
    rw [hC]
    rfl
  obtain ⟨oe, od, J⟩ : ∃ (oe : Obj) (od : Option Obj), PySem.W.InstAt s.heap a oe C od := by
    cases d with
    | some dd =>
      obtain ⟨fs, ed⟩ := ed dd rfl
      obtain ⟨oe, od, mA, J, _, _⟩ := inst_of I ea ed
      exact ⟨oe, _, J⟩
    | none =>
      obtain ⟨oe, vs, ha, hz, hd⟩ := EXO.get I.hok ea
      exact ⟨oe, none, ⟨ha, hz.1, by unfold PySem.W.notCls; rw [hd] <;> rfl, by rw [hz.2]; exact True.intro⟩⟩
  exact PySem.W.kia_one (PySem.W.kitx_exc hcl T.ga T.gg T.be T.kl T.ge T.tk T.mo) I.kIn J e (fun z => nomatch z) fun tk => ⟨.bl b, H, I.tok tk, rfl, q⟩
/-- C(), an own error without an __init__ of its own -/
theorem pe_oex0 {C : Addr} {bmB : List Value} {B newId initId : String} {x : Str} {p pos : Pos} (F : ExcBaseFacts B newId initId bmB) (q : PySem.W.excIn X.K C bmB newId = true) (gC : X.mg x = some (.ref C)) (kC : PySem.W.keepIn X.K (.ref C) = true) (hg : Gl X x)
    (hdb : (x == ("__debug__" : Str)) = false := by decide) :
    PE X (.Call (.Name x p) [] [] pos) (fun σ H Q => ∀ a, H a = none → Q (.ref a) (upd H a (EXO C a none))) := by
  refine ⟨fun pins s σ H Q I h => ?_⟩
  refine wpAny_Call_Name_kw (ld_glob I hg gC ?_ hdb)
  refine PySem.W.callWith_K0 I.kIn kC ?_
  obtain ⟨bm, N, nm, qn, bs, hdct, sn, sub, ab, col, dd, k0, k1, k2, k3, k5, mN, hC, hN, hni, T⟩ := exc_obj I.kIn q
  refine wpAny_call_exc_subT F T hC hN hni (fun h' a hm => ?_) (by show 0 ≤ sizeLine; omega)
  have hn : H a = none := I.hok.gone hm.new
  obtain ⟨t, ht, _, _⟩ := hm.there
  exact ⟨.ref a, upd H a (EXO C a none), I.laidN hm.keeps hm.new hn (exo_okE ht ⟨rfl, rfl⟩ rfl), rfl, h a hn⟩
end
end KZ
end

section
set_option Elab.async false
set_option linter.all false
set_option maxRecDepth 100000
set_option maxHeartbeats 4000000
/-! the end over a head by names: own errors' facts by one Bool -/
namespace KZ
open PySem PySem.Spec PyProof.Rows L2
theorem walkGE {l : PySem.W.OpenLaw} {n k : Nat} {q : Program} {loose : List Str} {XP : (Str → Option Value) → Heap → Prop} {YP : World → Heap → Prop} {d : DefRec} {x : Str}
    (hn : l.most = some n) (hn2 : n ≤ sizeLine) (hdf : d.params.defaults = []) (hr : Room k callerA) (hno : importsNone q = true)
    (F : ∀ (w : World) (mg : Str → Option Value) (fa : Addr) (h : Heap), YP w h → h.Ns mainGlobals mg → mg d.name = some (.ref fa) → ∃ K : PySem.W.Frag, K.In h ∧ LawG l w K k n x mg fa h) :
    PySem.W.WalkO q loose XP YP l.row.toRowW d [] (fun f vs => PySem.call f vs) := by
  refine Att.attach_callB hn hdf fun w s₀ s₁ mg mb fa o pm cd doc a vs ns G Y ho hd hcd hmg hobj hints hlen hbits hg => ?_
  obtain ⟨K, kx, fd, cs, sp, hT, nT, C, hb, hsp, hF⟩ := F w mg fa _ Y G.T.g hmg
  have ms := (G.T.seer hno).mods
  exact law_callG ⟨kx, G.T.g, G.T.b, G.T.builtins, G.T.nolimit, ⟨_, ms.choose_spec.1⟩, hg, hT, nT, C, G.T.bmain⟩ hobj hints (Nat.le_trans hlen hn2) hr hF hb fun H hH hS => hsp H a ns hlen hbits hH hS
theorem fun_of {K : PySem.W.Frag} {x qual : Str} {st : Stmt} {f : Addr} {fd : FuncData} (F : FunD K x qual (defArgs st) (defBody st) (defScope st) [] [] f fd) : Fun K x qual st f fd := by
  obtain ⟨oc, od, dV, kV, doc, pm, an, cdv, ct, osl, e, lk, hcd, hD, hK⟩ := F.ex
  rcases hD with ⟨_, rfl⟩ | ⟨z, _⟩
  · exact ⟨⟨oc, od, kV, doc, pm, an, cdv, ct, osl, e, lk, hcd⟩, F.kp⟩
  · exact absurd rfl z
def oexB (K : PySem.W.Frag) (C : Addr) : Bool := match K.lookup C with
  | some ⟨.type "type", _, .cls cd, sl⟩ => (match cd.mro, sl.toList with
    | .ref C' :: bm, [_, _, _, _, some (.builtin n), _] => C' == C && n == "ValueError.__new__" && !cd.hasDel && cd.hasDict && PySem.HandSPX.refsVE bm
    | _, _ => false)
  | _ => false
theorem oexB_ok {K : PySem.W.Frag} {C : Addr} (q : oexB K C = true) :
    ∃ nm q N bs bm sn sub ab col dd k0 k1 k2 k3 k5, K.lookup C = some (excClassObj nm q C N bs bm true sn sub ab col dd k0 k1 k2 k3 k5 "ValueError.__new__") ∧ PySem.HandSPX.refsVE bm = true := by
  unfold oexB at q
  split at q
  · rename_i dd cd sl ho
    split at q
    · rename_i C' bm k0 k1 k2 k3 n k5 hm hs
      simp only [Bool.and_eq_true, beq_iff_eq, Bool.not_eq_true'] at q
      obtain ⟨⟨⟨⟨rfl, rfl⟩, hdel⟩, hd⟩, hr⟩ := q
      obtain ⟨nm, bs, mro, ns, qn, hd', sn, sub, ab, col, del⟩ := cd
      dsimp only at hm hdel hd
      subst hm hdel hd
      have hsl : sl = #[k0, k1, k2, k3, some (.builtin "ValueError.__new__"), k5] := by
        obtain ⟨l⟩ := sl
        simp only at hs
        rw [hs]
      subst hsl
      exact ⟨nm, qn, ns, bs, bm, sn, sub, ab, col, dd, k0, k1, k2, k3, k5, ho, hr⟩
    · cases q
  · cases q
/-- what is asked of every error class -/
def errB (K : PySem.W.Frag) (C : Addr) : Bool := He.eqO (PySem.W.findIn K (.ref C) "__getattribute__") (some (some (.builtin "BaseException.__getattribute__"))) && (He.eqO (PySem.W.findIn K (.ref C) "__getattr__") (some none) &&
  (decide (PySem.W.subIn K (.ref C) (.type "BaseException") = some true) && (PySem.W.hasDictIn K C && (He.eqO (PySem.W.findIn K (.ref C) "__class__") (some (some (.builtin "object.__class__"))) && (He.eqO (PySem.W.specialIn K (.builtin "object.__class__") "__get__") (some (some (.builtin "getset_descriptor.__get__"))) &&
  (decide (PySem.W.takesIn K (.builtin "object.__class__") = some true) && decide (PySem.W.mroIn K C (.type "object") = some true)))))))
theorem errB_ok {K : PySem.W.Frag} {C : Addr} (h : errB K C = true) : ExcT K C := by
  obtain ⟨h1, h⟩ := He.ba h
  obtain ⟨h2, h⟩ := He.ba h
  obtain ⟨h3, h⟩ := He.ba h
  obtain ⟨h4, h⟩ := He.ba h
  obtain ⟨h5, h⟩ := He.ba h
  obtain ⟨h6, h⟩ := He.ba h
  obtain ⟨h7, h8⟩ := He.ba h
  exact ⟨He.eqO_ok h1, He.eqO_ok h2, of_decide_eq_true h3, h4, He.eqO_ok h5, He.eqO_ok h6, of_decide_eq_true h7, of_decide_eq_true h8⟩
/-- what is asked of an error class with its own __init__, its fields fs -/
def errI (K : PySem.W.Frag) (C : Addr) (fs : List Str) : Bool := errB K C && (oexB K C && (He.eqO (PySem.W.findIn K (.ref C) "__setattr__") (some (some (.builtin "object.__setattr__"))) && (decide (PySem.W.typeIn K (.ref C) = some (.type "type")) && (PySem.W.keepIn K (.ref C) &&
  (He.eqO (PySem.W.findIn K (.ref C) "__init__") (some (some (.ref (He.ma K C "__init__")))) && (decide (PySem.W.typeIn K (.ref (He.ma K C "__init__")) = some (.type "function")) && fs.all fun f => He.eqO (PySem.W.findIn K (.ref C) f) (some none)))))))
end KZ
end

section
set_option Elab.async false
set_option linter.all false
set_option maxRecDepth 100000
set_option maxHeartbeats 4000000
/-! the head's facts over a chosen part of the heap: what some names lead to, the globals' dict itself not gone into -/
namespace KZ
open PySem PySem.Spec PyProof.Rows L2 He
/-- one step further, but not through the globals -/
def grY (g : Addr → Option Obj) (as : List Addr) : List Addr :=
  ((as ++ (as.map fun a => ((g a).map refsD).getD []).flatten).filter fun a => !(Nat.beq a mainGlobals)).eraseDups
def stY (g : Addr → Option Obj) : Nat → List Addr → List Addr
  | 0, as => as
  | m + 1, as => stY g m (grY g as)
/-- the globals, and what these names lead to in m steps -/
def asY (names : List Str) (m : Nat) (g : Addr → Option Obj) : List Addr :=
  mainGlobals :: stY g m (names.map fun x => ga (frG g [mainGlobals]) x)
/-- the globals; these defs; these classes, what they name, and what their own __init__ names -/
def asZ (fs cs : List Str) (g : Addr → Option Obj) : List Addr :=
  let K0 := frG g [mainGlobals]
  let nx := fun a => ((g a).map refsD).getD []
  (mainGlobals :: ((fs.map fun x => let a := ga K0 x; (a :: nx a).filter fun b => !(Nat.beq b mainGlobals)).flatten ++
    (cs.map fun x => let C := ga K0 x; let l := nx C; let i := ma (frG g (C :: l)) C "__init__"; (C :: l) ++ (i :: nx i)).flatten)).eraseDups
section
variable (as : (Addr → Option Obj) → List Addr) (fa : List Fa) (fn : List DefD) (ts : List Tab) (tf : List Defn) (ex : PySem.W.Frag → Bool)
def partY (g : Addr → Option Obj) : PySem.W.Frag := frT g (as g)
def obsY (g : Addr → Option Obj) : AlX :=
  let K := partY as g
  (obsT fa fn ts K, ex K && tabsB g tf K)
theorem saysY {w : World} {h : Heap} (e : obsY as fa fn ts tf ex h.get? = valX fn ts w) : SaysX fa fn ts tf ex w h (partY as h.get?) := by
  have z := Prod.mk.inj e
  obtain ⟨x1, x2⟩ := ba z.2
  have at_ : ∀ p, p ∈ tf → PySem.W.codeHdIn (partY as h.get?) (cT (partY as h.get?) p).1 (cT (partY as h.get?) p).2 = true ∧
      ∃ o, h.get? (cT (partY as h.get?) p).2 = some o ∧ emptyTab o = true := by
    intro p hp
    have y := ba (List.all_eq_true.mp x2 p hp)
    refine ⟨y.1, ?_⟩
    have y2 := y.2
    split at y2
    · rename_i o ho
      exact ⟨o, ho, y2⟩
    · cases y2
  constructor
  · exact z.1
  · exact x1
  · exact fun p hp => (at_ p hp).1
  · intro p hp
    have ⟨o, ho, eo⟩ := (at_ p hp).2
    exact frT_none ho eo
  · intro p hp
    have ⟨o, ho, eo⟩ := (at_ p hp).2
    exact ho.trans (congrArg some (emptyTab_eq eo))
def hookY : PySem.W.Hook where
  α := AlX
  obs s := obsY as fa fn ts tf ex s.heap.get?
  val w := valX fn ts w
  says w h := ∃ K : PySem.W.Frag, K.In h ∧ SaysX fa fn ts tf ex w h K
  of _ _ e := ⟨partY as _, frT_in, saysY as fa fn ts tf ex e⟩
  keeps _ _ _ c k := by
    obtain ⟨K, hK, s⟩ := c
    exact ⟨K, hK.keeps k, s.t, s.more, s.hd, s.out, fun p hp => k _ _ (s.empty p hp)⟩
theorem obsY_eq {g : Addr → Option Obj} {s : Shared} (h : ∀ a, g a = s.heap.get? a) : obsY as fa fn ts tf ex g = (hookY as fa fn ts tf ex).obs s := by
  rw [show g = s.heap.get? from funext h]
  rfl
end
/-- the same world; one row of the text's is told -/
def told (b : Bool) (w : World) : World := ⟨w.draws, { w.params with followText := fun row => if row = "special-get-raises" then b else w.params.followText row }⟩
theorem told_eq {b : Bool} {w : World} (h : w.params.followText "special-get-raises" = b) : told b w = w := by
  obtain ⟨d, p⟩ := w
  have e : (fun row => if row = "special-get-raises" then b else p.followText row) = p.followText := funext fun row => by
    by_cases z : row = "special-get-raises"
    · rw [if_pos z, z]; exact h.symm
    · rw [if_neg z]
  show (⟨d, { p with followText := fun row => if row = "special-get-raises" then b else p.followText row }⟩ : World) = ⟨d, p⟩
  rw [e]
end KZ
end

section
set_option Elab.async false
set_option linter.all false
set_option maxRecDepth 100000
set_option maxHeartbeats 4000000
/-! dicts whose keys are None, ints and texts -/
namespace KZ
open PySem PySem.Spec PyProof.Rows L2
abbrev NK := Option Key
def nV : NK → V
  | none => .non
  | some k => kV k
theorem nV_is {P : Program} {w : World} {k : NK} {u : Value} (r : RelV (nV k) u) : (noneKind P w).is k u = true := by
  cases k with
  | none =>
    obtain rfl : u = Value.none := r
    rfl
  | some k => exact kV_is (P := P) (w := w) r
theorem nV_rel {k : NK} {u : Value} (h : nkIs k u = true) : RelV (nV k) u := by
  cases k with
  | none =>
    rw [nk_none h]
    rfl
  | some k => exact relV_key h
/-- the dict at a, its pairs in their order -/
def DN (P : Program) (w : World) (a : Addr) (kvs : List (NK × V)) : HO :=
  .ext fun h => kvs.length ≤ sizeLine ∧ (a == sysModules) = false ∧ ∃ vs, KV kvs vs ∧ h.DictOf (noneKind P w) a vs
section
variable {P : Program} {w : World} {H : Hp} {h : Heap} {a : Addr} {kvs : List (NK × V)} {vs : List (NK × Value)}
theorem DN.mk (z : kvs.length ≤ sizeLine) (hd : (a == sysModules) = false) (rel : KV kvs vs) (dd : h.DictOf (noneKind P w) a vs) : ObjOk P w H h a (DN P w a kvs) := by
  refine ⟨⟨z, hd, vs, rel, dd⟩, ?_, fun h1 h2 ⟨z, hd, vs, rel, dd⟩ st => ⟨z, hd, vs, rel, ?_⟩⟩
  · obtain ⟨o, _, _, ho, _⟩ := dd
    exact ⟨o, ho⟩
  · obtain ⟨o, es, ep, ho, r⟩ := dd
    exact ⟨o, es, ep, st o ho, r⟩
theorem DN.un (ok : ObjOk P w H h a (DN P w a kvs)) : kvs.length ≤ sizeLine ∧ (a == sysModules) = false ∧ ∃ vs, KV kvs vs ∧ h.DictOf (noneKind P w) a vs := ok.1
theorem DN.rd (ok : HOk P w H h) (e : Rd H a (DN P w a kvs)) : kvs.length ≤ sizeLine ∧ (a == sysModules) = false ∧ ∃ vs, KV kvs vs ∧ h.DictOf (noneKind P w) a vs := DN.un (e.ok ok)
theorem DN.mut {P : Program} {w : World} {a : Addr} {kvs : List (NK × V)} : Mut (some (DN P w a kvs)) := True.intro
end
section
variable {X : Cx} {pins : List (Addr × Obj)} {σ : L2.St} {H : Hp} {s : Shared} {a : Addr} {v d : V} {u r : Value} {k : NK} {kvs : List (NK × V)} {A : Around} {E : Value → Shared → Prop}
theorem n_getItem {Q : Value → Shared → Prop} (I : Inv X pins σ H s) (e : Rd H a (DN X.prog X.w a kvs)) (ry : RelV (nV k) u) (l : valV kvs k = some v) (h : ∀ x s', Inv X pins σ H s' → RelV v x → Q x s') :
    wpAny (model X.prog X.w) A (getItem (.ref a) u) Q E s := by
  obtain ⟨_, _, vs, rel, dd⟩ := DN.rd (kvs := kvs) I.hok e
  have rv := rel.val k
  rw [l] at rv
  obtain ⟨x, hx, rx⟩ := RelO.some_of rv
  exact wpAny_getItem_of (nV_is ry) dd.mapOf hx (h x _ (I.tok _) rx)
theorem n_in {Q : Value → Shared → Prop} (I : Inv X pins σ H s) (e : Rd H a (DN X.prog X.w a kvs)) (ry : RelV (nV k) u) (h : ∀ s', Inv X pins σ H s' → Q (.bool (valV kvs k).isSome) s') :
    wpAny (model X.prog X.w) A (compareOp .In u (.ref a)) Q E s := by
  obtain ⟨_, hd, vs, rel, dd⟩ := DN.rd (kvs := kvs) I.hok e
  refine wpAny_in_of (nV_is ry) hd dd.mapOf ?_
  have e2 := (rel.val k).isSome_eq
  rw [← e2]
  exact h _ (I.tok _)
theorem n_get2 {Q : Value → Shared → Prop} (I : Inv X pins σ H s) (e : Rd H a (DN X.prog X.w a kvs)) (ry : RelV (nV k) u) (rd : RelV d r) (h : ∀ x s', Inv X pins σ H s' → RelV ((valV kvs k).getD d) x → Q x s') :
    wpAny (model X.prog X.w) A (call (.builtin "dict.get") [.ref a, u, r]) Q E s := by
  obtain ⟨_, hd, vs, rel, dd⟩ := DN.rd (kvs := kvs) I.hok e
  have m := meets_dict_get_default (noneKind X.prog X.w) a (nV_is ry) hd r
  exact call_meetsIn PySem.F.slot_dict_get dd.typeIs PySem.F.entry_dict_get (PySem.F.args_dict_get_3 _ _ _) m ⟨_, dd.mapOf, h _ _ (I.tok _) ((rel.val k).getD rd)⟩
/-- the dict's object is another one now -/
theorem n_write {h' : Heap} {t' : Nat} {ms : List (NK × V)} {us : List (NK × Value)} (I : Inv X pins σ H s) (mu : Mut (H a)) (sb : Heap.SameBut a s.heap h') (z : ms.length ≤ sizeLine) (hd : (a == sysModules) = false) (rel : KV ms us) (dd : h'.DictOf (noneKind X.prog X.w) a us) :
    Inv X pins σ (upd H a (DN X.prog X.w a ms)) { s with heap := h', toks := t' } := by
  have ob : ∃ q, h'.get? a = some q := by
    obtain ⟨q, _, _, hq, _⟩ := dd
    exact ⟨q, hq⟩
  exact d_write I mu sb ob (DN.mk z hd rel dd)
theorem n_setItem {Q : Unit → Shared → Prop} (I : Inv X pins σ H s) (e : H a = some (DN X.prog X.w a kvs)) (hz : kvs.length < sizeLine) (ry : RelV (nV k) u) (rv : RelV v r)
    (h : ∀ s', Inv X pins σ (upd H a (DN X.prog X.w a (putK kvs k v))) s' → Q () s') : wpAny (model X.prog X.w) A (setItem (.ref a) u r) Q E s := by
  obtain ⟨_, hd, vs, rel, dd⟩ := DN.rd (kvs := kvs) I.hok (.inl e)
  have l1 := length_putK kvs k v
  have l2 : vs.length ≤ sizeLine := by
    rw [← rel.length]
    omega
  have mu : Mut (H a) := by
    rw [e]
    exact DN.mut
  exact wpAny_setItem_pairs (hsz := l2) (nV_is ry) dd fun h' d2 sb => h _ (n_write I mu sb (by omega) hd (rel.put k rv) d2)
theorem n_dictSet {Q : Unit → Shared → Prop} (I : Inv X pins σ H s) (e : H a = some (DN X.prog X.w a kvs)) (hz : kvs.length < sizeLine) (ry : RelV (nV k) u) (rv : RelV v r)
    (h : ∀ s', Inv X pins σ (upd H a (DN X.prog X.w a (putK kvs k v))) s' → Q () s') : wpAny (model X.prog X.w) X.A (dictSet a u r) Q E s := by
  obtain ⟨_, hd, vs, rel, dd⟩ := DN.rd (kvs := kvs) I.hok (.inl e)
  have l1 := length_putK kvs k v
  have l2 : vs.length ≤ sizeLine := by
    rw [← rel.length]
    omega
  have mu : Mut (H a) := by
    rw [e]
    exact DN.mut
  exact wpAny_dictSet_pairs (hsz := l2) (nV_is ry) dd fun h' d2 sb => h _ (n_write I mu sb (by omega) hd (rel.put k rv) d2)
theorem n_kind (I : Inv X pins σ H s) (e : Rd H a (DN X.prog X.w a kvs)) : s.TypeIs (.ref a) "dict" ∧ ∀ b, Value.ref a = .ref b → ∃ ob, s.heap.get? b = some ob ∧ ob.dict = none := by
  obtain ⟨_, _, vs, _, dd⟩ := DN.rd (kvs := kvs) I.hok e
  refine ⟨dd.typeIs, fun b q => ?_⟩
  cases q
  obtain ⟨ob, _, _, h1, h2, _⟩ := dd
  exact ⟨ob, h1, h2.2.1⟩
end
/-! readings -/
def tNNew (X : Cx) : TE := fun _ H Q => ∀ p, H p = none → Q (.ref p) (upd H p (DN X.prog X.w p []))
def tNGet (X : Cx) (td ty : TE) : TE := fun σ H Q => td σ H fun x H1 => ty σ H1 fun y H2 => ∃ a kvs k v, x = .ref a ∧ Rd H2 a (DN X.prog X.w a kvs) ∧ y = nV k ∧ valV kvs k = some v ∧ Q v H2
def tNIn (X : Cx) (ty td : TE) : TE := fun σ H Q => ty σ H fun y H1 => td σ H1 fun x H2 => ∃ a kvs k, x = .ref a ∧ Rd H2 a (DN X.prog X.w a kvs) ∧ y = nV k ∧ Q (.bl (valV kvs k).isSome) H2
def tNGet2 (X : Cx) (td ty tx : TE) : TE := fun σ H Q => td σ H fun x H1 => ∃ a kvs, x = .ref a ∧ Rd H1 a (DN X.prog X.w a kvs) ∧ ty σ H1 fun y H2 => tx σ H2 fun z H3 => ∃ kvs k, Rd H3 a (DN X.prog X.w a kvs) ∧ y = nV k ∧ Q ((valV kvs k).getD z) H3
def sNPut (X : Cx) (td ty tv : TE) : TS := fun D σ H => tv σ H fun v H1 => td σ H1 fun x H2 => ty σ H2 fun y H3 => ∃ a kvs k, x = .ref a ∧ H3 a = some (DN X.prog X.w a kvs) ∧ y = nV k ∧ kvs.length < sizeLine ∧ D.nx σ (upd H3 a (DN X.prog X.w a (putK kvs k v)))
section
variable {X : Cx} {o i e f value : Expr} {pos pos' apos cpos : Pos} {td ty tx tv : TE}
theorem pe_nnew : PE X (.Dict [] [] pos) (tNNew X) := by
  refine ⟨fun pins s σ H Q I h => ?_⟩
  refine thn (pe_dnewK.run pins s σ H (fun v H1 => ∃ p, v = .ref p ∧ H p = none ∧ H1 = upd H p (.dK [])) I fun p hp => ⟨p, rfl, hp, rfl⟩) fun u s1 ⟨v, H1, I1, rv, p, ev, hp, eH⟩ => ?_
  subst ev eH
  obtain ⟨z, hd, vs, rel, dd⟩ := dk_of (kvs := []) I1.hok upd_same
  have e0 : vs = [] := by cases rel; rfl
  subst e0
  have d2 : s1.heap.DictOf (noneKind X.prog X.w) p [] := by
    obtain ⟨ob, es, ep, h1, h2, h3, h4, h5, h6⟩ := dd
    have e1 : es = #[] := by
      have l := h5.length
      simp at l
      exact l
    subst e1
    exact ⟨ob, #[], ep, h1, h2, h3, fun q hq => absurd hq (by simp), .nil, List.nodup_nil⟩
  have I2 : Inv X pins σ (upd (upd H p (.dK [])) p (DN X.prog X.w p [])) s1 := n_write (t' := s1.toks) I1 (by rw [upd_same]; exact True.intro) ⟨rfl, fun b _ => rfl⟩ z hd .nil d2
  rw [upd_upd] at I2
  exact ⟨.ref p, _, I2, rv, h p hp⟩
theorem pe_nget (ho : PE X o td) (hi : PE X i ty) (hs : NoSl i) : PE X (.Subscript o i pos) (tNGet X td ty) := by
  refine ⟨fun pins s σ H Q I h => subD_of PySem.F.slot_dict_getitem.lookup hs (thn (ho.run pins s σ H _ I h) fun u s1 ⟨x, H1, I1, rx, q1⟩ => thn (hi.run pins s1 σ H1 _ I1 q1) fun j s2 ⟨y, H2, I2, ry, q2⟩ => ?_)⟩
  obtain ⟨a, kvs, k, v, ex, e2, ey, l, q⟩ := q2
  subst ex ey
  cases (show u = Value.ref a from rx)
  exact ⟨(n_kind I2 e2).1, n_getItem I2 e2 ry l fun x s3 I3 r3 => ⟨v, H2, I3, r3, q⟩⟩
theorem pc_nin (hi : PE X i ty) (ho : PE X o td) : PC X .In i o (tNIn X ty td) := by
  refine ⟨fun pins s σ H Q I h => thn (hi.run pins s σ H _ I h) fun j s1 ⟨y, H1, I1, ry, q1⟩ => thn (ho.run pins s1 σ H1 _ I1 q1) fun u s2 ⟨x, H2, I2, rx, q2⟩ => ?_⟩
  obtain ⟨a, kvs, k, ex, e2, ey, q⟩ := q2
  subst ex ey
  cases (show u = Value.ref a from rx)
  exact n_in I2 e2 ry fun s3 I3 => ⟨.bl _, H2, I3, rfl, q⟩
theorem pe_nget2 (ho : PE X o td) (he : PE X e ty) (hf : PE X f tx) (m : M2 X o "get" apos e f cpos) : PE X (.Call (.Attribute o "get" apos) [e, f] [] cpos) (tNGet2 X td ty tx) := by
  refine ⟨fun pins s σ H Q I h => wpAny_Call_method m.base m.few m.line PySem.F.plainAttrs_dict PySem.F.slot_dict_get PySem.F.type_dict_get (thn (ho.run pins s σ H _ I h) fun u s1 ⟨x, H1, I1, rx, q1⟩ => ?_)⟩
  obtain ⟨a, kvs, ex, e1, q1⟩ := q1
  subst ex
  cases (show u = Value.ref a from rx)
  have kd := n_kind (kvs := kvs) I1 e1
  refine ⟨kd.1, kd.2, ?_⟩
  rw [m.trees]
  refine Calls.callWith_builtin rfl (Calls.evalArgs_plain (Calls.spliced_cons (thn (he.run pins s1 σ H1 _ I1 q1) fun j s2 ⟨y, H2, I2, ry, q2⟩ => Calls.spliced_cons (thn (hf.run pins s2 σ H2 _ I2 q2) fun g s3 ⟨z, H3, I3, rz, q3⟩ => Calls.spliced_nil ?_))))
  obtain ⟨ms, k, e3, ey, q⟩ := q3
  subst ey
  exact n_get2 I3 e3 ry rz fun x s4 I4 r4 => ⟨_, H3, I4, r4, q⟩
theorem ps_nput (ho : PE X o td) (hi : PE X i ty) (hv : PE X value tv) (hs : swapsWith value (some (.Subscript o i pos')) pos.line X.env = pure false) : PS X (.Assign [.Subscript o i pos'] value pos) (sNPut X td ty tv) := by
  refine ⟨fun pins s σ H D I h => wpAny_Assign_Subscript (thn (hv.run pins s σ H _ I h) fun r s1 ⟨v, H1, I1, rv, q1⟩ => thn (ho.run pins s1 σ H1 _ I1 q1) fun u s2 ⟨x, H2, I2, rx, q2⟩ => thn (hi.run pins s2 σ H2 _ I2 q2) fun j s3 ⟨y, H3, I3, ry, q3⟩ => ?_) hs⟩
  obtain ⟨a, kvs, k, ex, e3, ey, hz, q⟩ := q3
  subst ex ey
  cases (show u = Value.ref a from rx)
  exact n_setItem I3 e3 hz ry rv fun s4 I4 => ⟨σ, _, I4, q⟩
end
/-! for k in d -/
/-- what the lock tells of it -/
theorem n_lock {X : Cx} {pins : List (Addr × Obj)} {σ : L2.St} {H : Hp} {s : Shared} {d : Addr} {o : Obj} {kvs : List (NK × V)} (I : Inv X pins σ H s) (h : H d = some (.frz o (DN X.prog X.w d kvs))) :
    (d == sysModules) = false ∧ s.heap.get? d = some o ∧ o.ExactDict ∧ ∃ (es : Array DictEntry) (ep : Nat) (vs : List (NK × Value)), o.data = .dict es ep ∧ es.size = kvs.length ∧ KV kvs vs ∧ s.heap.DictAt (noneKind X.prog X.w) d vs ep := by
  have q := I.hok d _ h
  obtain ⟨_, z, vs, kv, dd⟩ := DN.un q.2
  have hd : s.heap.get? d = some o := q.1
  obtain ⟨ob, es, ep, h1, h2, h3, r⟩ := dd
  rw [hd] at h1
  cases h1
  have n1 := r.2.1.length
  have n2 : kvs.length = vs.length := Paired.length kv
  rw [Array.length_toList] at n1
  exact ⟨z, hd, h2, es, ep, vs, h3, n1.trans n2.symm, kv, o, es, hd, h2, h3, r⟩
def Itn (P : Program) (w : World) (d : Addr) (o : Obj) (kvs : List (NK × V)) : It where
  go i H := H d = some (.frz o (DN P w d kvs)) ∧ i < kvs.length
  yld i H x H' := H' = H ∧ ∃ k v, kvs[i]? = some (k, v) ∧ x = nV k
  stop i H := H d = some (.frz o (DN P w d kvs)) ∧ kvs.length ≤ i
theorem turn_n {P : Program} {w : World} {K : PySem.W.Frag} {tg : Expr} {d it : Addr} {o : Obj} {es : Array DictEntry} {ep : Nat} {kvs : List (NK × V)} (hod : o.data = .dict es ep) : Turn P w K tg (Itn P w d o kvs) [it] it (fun i h => h.IsKeyIter it d i kvs.length ep) where
  mem := List.mem_singleton.mpr rfl
  obj i h st b hb := by
    rw [List.mem_singleton.mp hb]
    obtain ⟨oi, e, _, dd⟩ := st
    refine ⟨oi, e, fun v z => ?_⟩
    rw [dd] at z
    cases z
  keep i h h' st k := st.at (k it (List.mem_singleton.mpr rfl))
  item := by
    rintro X rfl rfl rfl hc i pins s σ H E I hf st ⟨hd, hi⟩
    have F := hf it (List.mem_singleton.mpr rfl)
    obtain ⟨_, _, _, es2, ep2, vs, h3, _, kv, at_⟩ := n_lock I hd
    cases (dict_ep hod h3).2
    have hkv : kvs[i]? = some (kvs[i].1, kvs[i].2) := List.getElem?_eq_getElem hi
    obtain ⟨u, hu, _⟩ := kv_get kv hkv
    have n : kvs.length = vs.length := Paired.length kv
    rw [n] at st
    refine wpAny_pyNext_dict_item st at_ hu fun key h2 hk st2 sb => ?_
    have I2 := I.turned (h' := h2) (t' := s.toks) (fun b ob hb e => (sb.2 b hb).trans e) F.1 F.2.1 F.2.2.2.1 F.2.2.2.2.1 F.2.2.2.2.2
    obtain ⟨oi, e, c, dd⟩ := id st2
    refine ⟨key, rfl, go_of (s := { s with heap := h2 }) e c dd (by decide) ⟨nV kvs[i].1, H, I2, nV_rel hk, ⟨rfl, _, _, hkv, rfl⟩, ?_, fun b hb => (hf b hb).1⟩⟩
    show h2.IsKeyIter it d (i + 1) kvs.length _
    rw [n]
    exact st2
  done := by
    rintro X rfl rfl rfl hc i pins s σ H E I hf st ⟨hd, hi⟩
    have F := hf it (List.mem_singleton.mpr rfl)
    obtain ⟨_, hg, _, es2, ep2, vs, h3, sz, _, _⟩ := n_lock I hd
    cases (dict_ep hod h3).2
    exact next_key_end (I.ok.hd hc) st hg h3 sz hi fun h2 eb => ⟨rfl, I.turned (t' := s.toks) (fun b ob hb e => eb b ob hb e) F.1 F.2.1 F.2.2.2.1 F.2.2.2.2.1 F.2.2.2.2.2⟩
  self A i s Q E st h := wpAny_pyIter_keyiter st h
/-- the dict is locked by the caller -/
def iNk (X : Cx) (td : TE) : TI := fun σ H R => td σ H fun x H1 => ∃ d o kvs, x = .ref d ∧ H1 d = some (.frz o (DN X.prog X.w d kvs)) ∧ R (Itn X.prog X.w d o kvs) H1
theorem pi_nk {X : Cx} {tg e : Expr} {td : TE} (he : PE X e td) : PI X tg e (iNk X td) := by
  refine ⟨fun pins s σ H R I h => thn (he.run pins s σ H _ I h) fun u s1 ⟨x, H1, I1, rx, q⟩ => ?_⟩
  obtain ⟨d, o, kvs, ex, hd, q⟩ := q
  subst ex
  cases (show u = Value.ref d from rx)
  obtain ⟨z, hg, hx, es, ep, vs, h3, sz, _, _⟩ := n_lock I1 hd
  refine iter_keys z hg hx h3 (pi_one (tk := s1.toks) I1 _ (turn_n h3) ⟨_, Heap.get?_push_size _ rfl, rfl, ?_⟩ q)
  rw [sz]
  rfl
end KZ
end

section
set_option Elab.async false
set_option linter.all false
set_option maxRecDepth 100000
set_option maxHeartbeats 4000000
/-! a dict by a comprehension, None among its keys -/
namespace KZ
open PySem PySem.Spec PyProof.Rows L2
section
variable {X : Cx}
/-- one turn of {k: v for target in iter if ..} into the dict at D; Nx: what the next turn asks -/
def tNTurn (X : Cx) (D : Addr) (tt : TT) (tk tv : TE) (Nx : Hp → Prop) : L2.St → Hp → Prop := fun σ H =>
  tt σ H fun b H3 => if b = true then tk σ H3 fun y H4 => tv σ H4 fun z H5 => ∃ kvs k, y = nV k ∧ H5 D = some (DN X.prog X.w D kvs) ∧ kvs.length < sizeLine ∧ Nx (upd H5 D (DN X.prog X.w D (putK kvs k z))) else Nx H3
def tDn (X : Cx) (wi : TI) (g : TG) (tt : TT) (tk tv : TE) (vs : List Nat) : TE := fun σ H Q => wi σ H fun J H1 => ∀ D, H1 D = none →
  ∃ W : Nat → Nat → Hp → Prop, (∃ m, W 0 m (upd H1 D (DN X.prog X.w D []))) ∧ ∀ i m H, W i m H → (J.stop i H ∧ Q (.ref D) H) ∨
    (J.go i H ∧ ∃ Nx : Hp → Prop, (∀ H', Nx H' → ∃ m', m' < m ∧ W (i + 1) m' H') ∧ ∀ x H', J.yld i H x H' → g x (wipe σ vs) H' fun σ2 H2 => wipe σ2 vs = wipe σ vs ∧ tNTurn X D tt tk tv Nx σ2 H2)
theorem dn_empty {P : Program} {w : World} {H : Hp} (h : Heap) (hb : sysModules < h.objs.size) : ObjOk P w H (h.push { cls := .type "dict", data := .dict #[] }) h.objs.size (DN P w h.objs.size []) :=
  DN.mk (vs := []) (Nat.zero_le _) (beq_eq_false_iff_ne.mpr fun z => Nat.lt_irrefl _ (z ▸ hb)) .nil (Heap.DictOf.new h)
/-- {k: v for target in iter if ..} -/
theorem pe_dcN {kx vx tg iter : Expr} {ifs : List Expr} {scope : Scope} {own : List (Str × Nat)} {pos : Pos} {wi : TI} {g : TG} {tt : TT} {tk tv : TE} (calm : X.calm = true) (nd : X.N.Nodup) (it_ : PI X tg iter wi) (blk : BlkOk X.N X.env.scope scope own)
    (p1 : ∀ (s : Shared) (H : Hp) (C : Addr) (cl : List (Str × Addr)) (fp : List Addr), PG (X.blk s H scope (compEnvC scope cl C X.env) fp) tg g)
    (p2 : ∀ (s : Shared) (H : Hp) (C : Addr) (cl : List (Str × Addr)) (fp : List Addr), PTs (X.blk s H scope (compEnvC scope cl C X.env) fp) ifs tt)
    (p3 : ∀ (s : Shared) (H : Hp) (C : Addr) (cl : List (Str × Addr)) (fp : List Addr), PE (X.blk s H scope (compEnvC scope cl C X.env) fp) kx tk)
    (p4 : ∀ (s : Shared) (H : Hp) (C : Addr) (cl : List (Str × Addr)) (fp : List Addr), PE (X.blk s H scope (compEnvC scope cl C X.env) fp) vx tv)
    (fold : ∀ x, foldedSetIterable iter X.env x = pure x := by intro _; rfl) : PE X (.DictComp kx vx [⟨tg, iter, ifs, 0⟩] scope pos) (tDn X wi g tt tk tv (own.map (·.2))) := by
  refine ⟨fun pins s σ H Q I hQ => ?_⟩
  rw [arm_eval_DictComp]
  have free_ : ∀ y ∈ scope.names, y.2 = .free → ∃ c, X.env.cells.lookup y.1 = some c := by
    intro y hy e
    exact I.ok.has _ (blk.free y hy e)
  refine wpAny_comprehension_free (use := none) rfl fold (closure_ok free_) blk.kind (fun y hy e => by rw [blk.uniq y hy, e]) (thn (it_.run pins s σ H _ I hQ) fun xv s1 y1 => thn y1 fun itv s2 y2 => ?_)
  obtain ⟨it, fp, tn, J, H2, rfl, I2, T, st2, f2, q⟩ := y2
  refine wpAny_newObj_type (newEnv_comp ?_)
  generalize eD : s2.heap.objs.size = D
  obtain ⟨W, ⟨m0, w0⟩, turn⟩ := q D (I2.hok.fresh (Nat.le_of_eq eD))
  generalize e3 : ({ s2 with heap := s2.heap.push { cls := .type "dict", data := .dict #[] } } : Shared) = s3
  have heap3 : s3.heap = s2.heap.push { cls := .type "dict", data := .dict #[] } := e3 ▸ rfl
  generalize eH : upd H2 D (DN X.prog X.w D []) = H3 at w0
  have I3 : Inv X pins σ H3 s3 := by
    subst e3 eH eD
    exact I2.laid (t' := s2.toks) (fun b o e => Heap.get?_push_of_some _ e) (Nat.le_refl _) (dn_empty s2.heap I2.big)
  have low : ∀ b ∈ fp, b < s2.heap.objs.size := by
    intro b hb
    obtain ⟨o, e, _⟩ := T.obj _ _ st2 b hb
    exact Heap.lt_size e
  have f3 : ∀ b ∈ fp, FpOk X pins H3 b ∧ b < s3.heap.objs.size := by
    intro b hb
    have l := low b hb
    have z := f2 b hb
    refine ⟨⟨?_, z.2⟩, ?_⟩
    · rw [← eH, upd_ne (fun y => Nat.lt_irrefl _ (by rw [y, eD] at l; exact l))]
      exact z.1
    · rw [heap3, Heap.size_push]
      exact Nat.lt_succ_of_lt l
  have st3 : tn 0 s3.heap := T.keep _ _ _ st2 fun b _ o e => heap3 ▸ Heap.get?_push_of_some _ e
  have none3 : ∀ b ∈ fp, H3 b = none := fun b hb => (f3 b hb).1.1
  have I4 := block_start I3 blk nd f3
  generalize ecl : cellsFrom (s3.heap.objs.size + 1) scope.names (cloFrom X.env.cells scope.names []) = cl at I4
  have g1 := p1 s3 H3 s3.heap.objs.size cl fp
  have g2 := p2 s3 H3 s3.heap.objs.size cl fp
  have g3 := p3 s3 H3 s3.heap.objs.size cl fp
  have g4 := p4 s3 H3 s3.heap.objs.size cl fp
  have eL : (compEnvC scope cl s3.heap.objs.size X.env).locals = s3.heap.objs.size := rfl
  generalize eE : compEnvC scope cl s3.heap.objs.size X.env = env at I4 g1 g2 g3 g4 eL
  generalize e4 : ({ s3 with heap := pushCells (s3.heap.push { cls := .type "dict", data := .dict #[] }) scope.names } : Shared) = s4 at I4
  have st4 : tn 0 s4.heap := T.keep _ _ _ st3 fun b _ o e => e4 ▸ pushCells_keeps _ _ _ _ (Heap.get?_push_of_some _ e)
  let B := X.blk s3 H3 scope env fp
  have held : ∀ {σ' : L2.St} {H' : Hp} {s' : Shared}, Inv B [] σ' H' s' → (∀ b ∈ fp, H' b = none) → ∀ b ∈ fp, FpOk B [] H' b := by
    intro σ' H' s' J' n b hb
    have z := J'.ok.exf b hb
    exact ⟨n b hb, z.1, J'.ok.exfs b hb, .inl hb, fun x c e => z.2 x c e, fun p hp => nomatch (show p ∈ ([] : List (Addr × Obj)) from hp)⟩
  have post : codeAny (model X.prog X.w) X.A (.compLoop (.DictComp kx vx [⟨tg, iter, ifs, 0⟩] scope pos) 0 (.ref it) (.ref D) env) (compPost (model X.prog X.w) X.A X.xe none (EP X pins σ Q) (.ref D) s3.heap.objs.size) s4 := by
    refine compLoop_anyD (fun n s' => ∃ i H', Inv B [] (wipe σ (own.map (·.2))) H' s' ∧ tn i s'.heap ∧ (∀ b ∈ fp, H' b = none) ∧ W i n H') ?_ m0 ⟨0, H3, I4, st4, none3, w0⟩
    rintro n s5 ⟨i, H5, I5, st5, n5, w5⟩
    rcases turn i n H5 w5 with ⟨stop, qq⟩ | ⟨go, Nx, hNx, step⟩
    · refine thnF (T.done B rfl rfl rfl calm i [] s5 _ H5 (fun _ _ => False) I5 (held I5 n5) st5 stop) fun r s6 y6 => ?_
      obtain ⟨rfl, I6⟩ := y6
      have I7 : Inv X pins σ H5 s6 := by
        refine I3.call' (ch := fp) I6.os I6.base I6.hok I6.bare fun b hb => ?_
        have z := (f3 b hb).1.2
        exact ⟨z.2.2.1, z.1, z.2.2.2.1, z.2.2.2.2⟩
      have nC : H5 s3.heap.objs.size = none := eL ▸ I6.free
      obtain ⟨m, hn, _⟩ := I6.loc
      have fC := I3.fpOk (Nat.le_refl _) nC
      refine ⟨m, eL ▸ hn, fun h2 sb => ?_⟩
      exact ⟨.ref D, H5, I7.turned (t' := s6.toks) (fun b o hb e => (sb.2 b hb).trans e) fC.1 fC.2.1 fC.2.2.2.1 fC.2.2.2.2.1 fC.2.2.2.2.2, rfl, qq⟩
    · refine thnF (T.item B rfl rfl rfl calm i [] s5 _ H5 (fun _ _ => False) I5 (held I5 n5) st5 go) fun r s6 y6 => ?_
      obtain ⟨u, rfl, y6⟩ := y6
      refine thnF y6 fun _ s7 y7 => ?_
      obtain ⟨x, H7, I7, r7, yl, st7, n7⟩ := y7
      have P7 := I7.pinned (held I7 n7) (T.obj _ _ st7)
      refine thnF (g1.run _ s7 _ H7 x u _ P7 r7 (step x H7 yl)) fun _ s8 y8 => ?_
      obtain ⟨σ8, H8, I8, w8, y8⟩ := y8
      refine thnF (g2.run _ s8 σ8 H8 _ I8 y8) fun b s9 y9 => ?_
      obtain ⟨H9, I9, y9⟩ := y9
      have len8 : (wipe σ (own.map (·.2))).length = σ8.length := by rw [← w8, wipe_length]
      have next : ∀ {s' : Shared} {H' : Hp}, Inv B ([] ++ pinsAt fp s7.heap) σ8 H' s' → Nx H' → ∃ m, m < n ∧ ∃ i H', Inv B [] (wipe σ (own.map (·.2))) H' s' ∧ tn i s'.heap ∧ (∀ b ∈ fp, H' b = none) ∧ W i m H' := by
        intro s' H' I' nx
        obtain ⟨k, hk, w'⟩ := hNx H' nx
        have pin : ∀ b ∈ fp, ∀ o, s7.heap.get? b = some o → s'.heap.get? b = some o ∧ H' b = none := by
          intro b hb o e
          have z := I'.pin (b, o) (List.mem_append_right _ (List.mem_append_right _ (mem_pinsAt hb e)))
          exact ⟨z.1, z.2.1⟩
        refine ⟨k, hk, i + 1, H', (I'.unpinned (pins := [])).weak len8 ?_, T.keep _ _ _ st7 fun b hb o e => (pin b hb o e).1, ?_, w'⟩
        · intro j v e
          rw [← w8] at e
          exact (wipe_some e).1
        · intro b hb
          obtain ⟨o, e, _⟩ := T.obj _ _ st7 b hb
          exact (pin b hb o e).2
      cases b with
      | false => exact next I9 y9
      | true =>
        refine thnF (g3.run _ s9 σ8 H9 _ I9 y9) fun z s10 y10 => ?_
        obtain ⟨yk, H10, I10, r10, y10⟩ := y10
        refine thnF (g4.run _ s10 σ8 H10 _ I10 y10) fun z2 s11 y11 => ?_
        obtain ⟨yv, H11, I11, r11, kvs, k, ek, eD11, hz, nx⟩ := y11
        subst ek
        exact n_dictSet (X := B) I11 eD11 hz r10 r11 fun s12 I12 => next I12 nx
  subst eE ecl e4
  exact codeAny_compStart_dict post (T.self X.A 0 _ _ _ st4 post)
end
end KZ
end

section
set_option Elab.async false
set_option linter.all false
set_option maxRecDepth 100000
set_option maxHeartbeats 4000000
/-! the top's run, its plain steps without the looks that say nothing of them -/
noncomputable section
namespace KZ
open PySem PySem.W PySem.Calls PyProof.Rows HandSHeadRun
/-- one step of any kind, with all looks -/
def oneG (st : SharedT → Thread → Option (SharedT × Thread)) (n0 : Nat) (ann : Option Value) (on : SharedT → Thread → Option SharedT) (s : SharedT) (t : Thread) : Option SharedT :=
  match through t with
  | true => some s
  | false => match stepOk n0 ann t with
    | false => none
    | true => match st s t with
      | some (s', t') => frS s' fun s' => on s' t'
      | none => none
/-- what a frame keeps of a call -/
def keptBy (called code : Code) (lv : List Value) : List Value :=
  match called, code with
  | .builtin _ x, _ => unmarked x.refs
  | .call g x, .builtin _ _ => unmarked (if lv.contains borrowed then x.refs else g :: x.refs)
  | .call g x, .call _ _ => unmarked (if lv.contains borrowed then x.refs else g :: x.refs)
  | _, _ => []
/-- one step; on: what follows it -/
def oneH (st : SharedT → Thread → Option (SharedT × Thread)) (den : Code → Sem Fin) (p : Program) (w : World) (n0 : Nat) (ann : Option Value) (on : SharedT → Thread → Option SharedT) : SharedT → Thread → Option SharedT
  | ⟨T, n, life, gens, drawn, toks, os⟩, ⟨cur, code, pos, stack⟩ => match cur with
    | .rule _ k => on ⟨T, n, life, gens, drawn, toks, os⟩ ⟨k (), code, pos, stack⟩
    | .at q k => on ⟨T, n, life, gens, drawn, toks, os⟩ ⟨k (), code, q, stack⟩
    | .point _ k => on ⟨T, n, life, gens, drawn, toks, os⟩ ⟨k (), code, pos, stack⟩
    | .ask k => on ⟨T, n, life, gens, drawn, toks, os⟩ ⟨k ⟨p, w.params⟩, code, pos, stack⟩
    | .fresh k => frNat (toks + 1) fun m => on ⟨T, n, life, gens, drawn, m, os⟩ ⟨k toks, code, pos, stack⟩
    | .load a _ k => match Nat.blt a n with
      | true => match T.get a with
        | some o => match alive o with
          | some u => on ⟨T, n, life, gens, drawn, toks, os⟩ ⟨k u, code, pos, stack⟩
          | none => none
        | none => none
      | false => none
    | .alloc o k => match ((T.ins n o).get n).isSome with
      | true => frNat (n + 1) fun m => on ⟨T.ins n o, m, life, gens, drawn, toks, os⟩ ⟨k n, code, pos, stack⟩
      | false => none
    | .call c h g l k => on ⟨T, n, life, gens, drawn, toks, os⟩ ⟨den c, c, pos, .ret k h g l code pos (keptBy c code l) :: stack⟩
    | .pure (.done f) => match stack with
      | .ret k _ _ _ c p _ :: rest => on ⟨T, n, life, gens, drawn, toks, os⟩ ⟨k (.ok f), c, p, rest⟩
      | [] => some ⟨T, n, life, gens, drawn, toks, os⟩
      | .gen a k l c p :: rest => oneG st n0 ann on ⟨T, n, life, gens, drawn, toks, os⟩ ⟨.pure (.done f), code, pos, .gen a k l c p :: rest⟩
    | .update a _ f k => match Nat.ble n0 a || a == mainNs || a == cStatics || ann == some (.ref a) with
      | true => match Nat.blt a n with
        | true => match T.get a with
          | some o => match alive o with
            | some _ => on ⟨T.set a f, n, life, gens, drawn, toks, os⟩ ⟨k (), code, pos, stack⟩
            | none => none
          | none => none
        | false => none
      | false => none
    | c => oneG st n0 ann on ⟨T, n, life, gens, drawn, toks, os⟩ ⟨c, code, pos, stack⟩
def goH (st : SharedT → Thread → Option (SharedT × Thread)) (den : Code → Sem Fin) (p : Program) (w : World) (n0 : Nat) (ann : Option Value) (m : Nat) : SharedT → Thread → Option SharedT :=
  Nat.rec (motive := fun _ => SharedT → Thread → Option SharedT) (fun _ _ => none) (fun _ on s t => oneH st den p w n0 ann on s t) m
theorem goF_one (st : SharedT → Thread → Option (SharedT × Thread)) (n0 : Nat) (ann : Option Value) (m : Nat) (s : SharedT) (t : Thread) : goF st n0 ann (m + 1) s t = oneG st n0 ann (goF st n0 ann m) s t := rfl
theorem oneG_mono {st : SharedT → Thread → Option (SharedT × Thread)} {n0 : Nat} {ann : Option Value} {f g : SharedT → Thread → Option SharedT} (h : ∀ s t r, f s t = some r → g s t = some r) {s : SharedT} {t : Thread} {r : SharedT} (e : oneG st n0 ann f s t = some r) : oneG st n0 ann g s t = some r := by
  unfold oneG at e ⊢
  cases a : through t with
  | true => rw [a] at e; exact e
  | false =>
    rw [a] at e
    cases b : stepOk n0 ann t with
    | false => rw [b] at e; cases e
    | true =>
      rw [b] at e
      cases c : st s t with
      | none => rw [c] at e; cases e
      | some x =>
        rw [c] at e
        obtain ⟨s2, t2⟩ := x
        simp only [frS_eq] at e ⊢
        exact h _ _ _ e
/-- a step that wants no look -/
theorem oneG_plain {den : Code → Sem Fin} {p : Program} {w : World} {n0 : Nat} {ann : Option Value} {g : SharedT → Thread → Option SharedT} {s s2 r : SharedT} {t t2 : Thread} (h1 : through t = false) (h2 : stepOk n0 ann t = true) (h3 : stepT den p w s t = some (s2, t2)) (e : g s2 t2 = some r) :
    oneG (stepT den p w) n0 ann g s t = some r := by
  unfold oneG
  rw [h1, h2, h3]
  simp only [frS_eq]
  exact e
theorem oneH_ok {den : Code → Sem Fin} {p : Program} {w : World} {n0 : Nat} {ann : Option Value} {f g : SharedT → Thread → Option SharedT} (h : ∀ s t r, f s t = some r → g s t = some r) {s : SharedT} {t : Thread} {r : SharedT} (e : oneH (stepT den p w) den p w n0 ann f s t = some r) :
    oneG (stepT den p w) n0 ann g s t = some r := by
  obtain ⟨T, n, life, gens, drawn, toks, os⟩ := s
  obtain ⟨cur, code, pos, stack⟩ := t
  have no : ∀ c : Sem Fin, (∀ x, c ≠ .pure x) → through ⟨c, code, pos, stack⟩ = false := by
    intro c hc
    unfold through
    cases c <;> first | exact Bool.and_false _ | exact absurd rfl (hc _)
  cases cur with
  | rule tag k => exact oneG_plain (no _ fun _ z => nomatch z) rfl rfl (h _ _ _ e)
  | «at» q k => exact oneG_plain (no _ fun _ z => nomatch z) rfl rfl (h _ _ _ e)
  | point l k => exact oneG_plain (no _ fun _ z => nomatch z) rfl rfl (h _ _ _ e)
  | ask k => exact oneG_plain (no _ fun _ z => nomatch z) rfl rfl (h _ _ _ e)
  | fresh k =>
    have e1 : (frNat (toks + 1) fun m => f ⟨T, n, life, gens, drawn, m, os⟩ ⟨k toks, code, pos, stack⟩) = some r := e
    rw [frNat_eq] at e1
    exact oneG_plain (no _ fun _ z => nomatch z) rfl rfl (h _ _ _ e1)
  | load a q k =>
    have e1 : (match Nat.blt a n with
      | true => match T.get a with
        | some o => match alive o with
          | some u => f ⟨T, n, life, gens, drawn, toks, os⟩ ⟨k u, code, pos, stack⟩
          | none => none
        | none => none
      | false => none) = some r := e
    cases a1 : Nat.blt a n with
    | false => rw [a1] at e1; cases e1
    | true =>
      rw [a1] at e1
      cases a2 : T.get a with
      | none => simp only [a2] at e1; cases e1
      | some o =>
        simp only [a2] at e1
        cases a3 : alive o with
        | none => simp only [a3] at e1; cases e1
        | some u =>
          simp only [a3] at e1
          refine oneG_plain (no _ fun _ z => nomatch z) rfl ?_ (h _ _ _ e1)
          simp only [stepT, a1, a2, a3]
  | alloc o k =>
    have e1 : (match ((T.ins n o).get n).isSome with
      | true => frNat (n + 1) fun m => f ⟨T.ins n o, m, life, gens, drawn, toks, os⟩ ⟨k n, code, pos, stack⟩
      | false => none) = some r := e
    cases a1 : ((T.ins n o).get n).isSome with
    | false => rw [a1] at e1; cases e1
    | true =>
      rw [a1] at e1
      simp only [frNat_eq] at e1
      refine oneG_plain (no _ fun _ z => nomatch z) rfl ?_ (h _ _ _ e1)
      simp only [stepT, a1]
  | call c hh g l k => exact oneG_plain (no _ fun _ z => nomatch z) rfl rfl (h _ _ _ e)
  | update a q f k =>
    cases a0 : (Nat.ble n0 a || a == mainNs || a == cStatics || ann == some (.ref a)) with
    | false => simp only [oneH, a0] at e; cases e
    | true =>
      cases a1 : Nat.blt a n with
      | false => simp only [oneH, a0, a1] at e; cases e
      | true =>
        cases a2 : T.get a with
        | none => simp only [oneH, a0, a1, a2] at e; cases e
        | some o =>
          cases a3 : alive o with
          | none => simp only [oneH, a0, a1, a2, a3] at e; cases e
          | some u =>
            simp only [oneH, a0, a1, a2, a3] at e
            refine oneG_plain (no _ fun _ z => nomatch z) ?_ ?_ (h _ _ _ e)
            · show (_ && (Nat.ble n0 a || a == mainNs || a == cStatics || ann == some (.ref a))) = true
              rw [a0]
              rfl
            · simp only [stepT, a1, a2, a3]
  | pure x =>
    cases x with
    | again c => exact oneG_mono h e
    | done f =>
      cases stack with
      | nil => exact e
      | cons fr rest =>
        cases fr with
        | gen a k l c p => exact oneG_mono h e
        | ret k a b l c p kp => exact oneG_plain rfl rfl rfl (h _ _ _ e)
  | _ => exact oneG_mono h e
theorem goH_ok {den : Code → Sem Fin} {p : Program} {w : World} {n0 : Nat} {ann : Option Value} : ∀ (m : Nat) {s : SharedT} {t : Thread} {r : SharedT}, goH (stepT den p w) den p w n0 ann m s t = some r → goF (stepT den p w) n0 ann m s t = some r
  | 0, _, _, _, e => nomatch (show (none : Option SharedT) = some _ from e)
  | m + 1, s, t, r, e => by
    rw [goF_one]
    exact oneH_ok (fun s t r => goH_ok m) e
/-- the state behind the top, from the boot -/
def endH (M : Nat) (p : Program) (w : World) (os : OsState) : Option SharedT := match putAll (boot_heap w.params).objs.toList .nil 0 with
  | some (t, n) => frNat n fun n0 => goH (stepQ (denQ tabQ) p w) (denQ tabQ) p w n0 (bootAnn w) M (bootT w os (t, n0)) (topStub p)
  | none => none
theorem endH_ok {M : Nat} {p : Program} {w : World} {os : OsState} {r : SharedT} (e : endH M p w os = some r) : endF (stepQ (denQ tabQ) p w) M p w os = some r := by
  unfold endH at e
  unfold endF
  rw [← stepQ_eq] at e ⊢
  cases a : putAll (boot_heap w.params).objs.toList .nil 0 with
  | none => rw [a] at e; cases e
  | some x =>
    rw [a] at e
    obtain ⟨t, n⟩ := x
    simp only [frNat_eq] at e ⊢
    exact goH_ok M e
/-- what is seen behind it -/
theorem endH_map {α : Type} {M : Nat} {p : Program} {w : World} {os : OsState} {F : SharedT → α} {v : α} (e : (endH M p w os).map F = some v) : ∃ r, endF (stepQ (denQ tabQ) p w) M p w os = some r ∧ F r = v := by
  obtain ⟨r, h1, h2⟩ := Option.map_eq_some_iff.mp e
  exact ⟨r, endH_ok h1, h2⟩
end KZ
end

section
set_option Elab.async false
set_option linter.all false
set_option maxRecDepth 100000
set_option maxHeartbeats 4000000
/-! == and != by an own __eq__, whatever it answers, whatever the other value is -/
namespace KZ
open PySem PySem.Spec PyProof.Rows L2
section
variable {prog : Program} {w : World} {A : Around} {E : Value → Shared → Prop} {s : Shared} {K : PySem.W.Frag} {x C f : Addr} {ox : Obj} {od : Option Obj} {b tb : Value}
/-- object.__ne__ of an instance with an own __eq__ -/
theorem ne_try {Q : Option Value → Shared → Prop} (hu : A.units + 1 < cLine) (X : K.In s.heap) (I : PySem.W.InstAt s.heap x ox C od) (hne : PySem.W.findIn K (.ref C) "__ne__" = some (some (.builtin "object.__ne__"))) (hob : PySem.W.mroIn K C (.type "object") = some true)
    (hs : PySem.W.findIn K (.ref C) "__eq__" = some (some (.ref f))) (hf : PySem.W.isFn K (.ref f) = true)
    (h : wpAny (model prog w) A.in1 (call (.ref f) [.ref x, b]) (fun v s' => ∃ r, v = .bool r ∧ Q (some (.bool (!r))) s') E s) : wpAny (model prog w) A (tryCompare (.ref x) "__ne__" b) Q E s := by
  have ins : PySem.W.Looks (model prog w) s.heap (isInstance (.ref x) (.type "object")) true := I.type.andThen (PySem.W.looks_subIn X (t := .ref C) hob)
  have body : wpAny (model prog w) A.in1 (Builtin.«object.__ne__» ⟨[.ref x, b], []⟩) (fun fin s' => match fin with
      | .done fl => ∃ v, fl = .ret v ∧ ∃ r, v = .bool (!r) ∧ Q (some (.bool (!r))) s'
      | .again _ => False) E s := by
    unfold Builtin.«object.__ne__»
    refine wpAny_bind (wpAny_pure ?_)
    refine wpAny_bind (wpAny_cRoomFor hu ?_)
    refine wpAny_bind (PySem.W.ifBound_K (args := [b]) X I hs hf (wpAny_mono h (fun v s' hv => ?_) fun _ _ e => e))
    obtain ⟨r, rfl, q⟩ := hv
    refine wpAny_bind (wpAny_truthy_bool ?_)
    exact wpAny_pure ⟨_, rfl, r, rfl, q⟩
  unfold tryCompare
  refine wpAny_bind ?_
  simp only [callSpecialIfBound?, bindSpecialIfBound?]
  refine wpAny_holding (wpAny_bind (wpAny_bind (wpAny_bind (I.type.here ((PySem.W.looks_findIn X hne).here ?_)))))
  simp only [F.cmp_object.ne.bind]
  have fin : wpAny (model prog w) A (call (.builtin "object.__ne__") ([.ref x] ++ [b]) >>= fun v => pure (some v)) (fun v s' => wpAny (model prog w) A (match v with
      | some .notImplemented | none => pure none
      | some v => pure (some v)) Q E s') E s := by
    refine wpAny_bind (wpAny_call (codeAny_call_builtin F.cmp_object.ne.plain F.cmpEntry_ne (PySem.W.check_slot F.cmpKind_ne F.cmpSplit_ne ins (F.cmpArgs_ne _ _) (wpAny_mono body (fun fl s' hq => ?_) fun _ _ e => e))))
    cases fl with
    | again c => exact hq.elim
    | done fl =>
      obtain ⟨v, rfl, r, rfl, q⟩ := hq
      exact wpAny_pure (wpAny_pure q)
  refine wpAny_bind (wpAny_askSetting (wpAny_ite ?_))
  split
  · exact wpAny_bind (wpAny_pure (wpAny_pure fin))
  · exact wpAny_tryCatch (wpAny_bind (wpAny_pure (wpAny_pure fin)))
/-- x != b, x an instance with an own __eq__ and no own __ne__ -/
theorem ne_own {Q : Value → Shared → Prop} (hu : A.units + 1 < cLine) (X : K.In s.heap) (I : PySem.W.InstAt s.heap x ox C od) (hb : PySem.W.Looks (model prog w) s.heap (typeOf b) tb) (hn : PySem.W.notFirst K C tb = true)
    (hne : PySem.W.findIn K (.ref C) "__ne__" = some (some (.builtin "object.__ne__"))) (hob : PySem.W.mroIn K C (.type "object") = some true) (hs : PySem.W.findIn K (.ref C) "__eq__" = some (some (.ref f))) (hf : PySem.W.isFn K (.ref f) = true)
    (h : wpAny (model prog w) A.in1 (call (.ref f) [.ref x, b]) (fun v s' => ∃ r, v = .bool r ∧ Q (.bool (!r)) s') E s) : wpAny (model prog w) A (richCompare .NotEq (.ref x) b) Q E s := by
  have t := ne_try (Q := fun v s' => ∃ z, v = some z ∧ Q z s') hu X I hne hob hs hf (wpAny_mono h (fun v s' ⟨r, e, q⟩ => ⟨r, e, _, rfl, q⟩) fun _ _ e => e)
  unfold richCompare
  simp only [oneThing_ref]
  refine wpAny_holding (wpAny_bind (wpAny_cRoomFor (Nat.lt_of_succ_lt hu) ?_))
  refine wpAny_bind (I.type.here (wpAny_bind (hb.here ?_)))
  have last : wpAny (model prog w) A (tryCompare (.ref x) "__ne__" b) (fun r s' => ∃ v, r = some v ∧ wpAny (model prog w) A (pure v) Q E s') E s :=
    wpAny_mono t (fun r s' ⟨v, e, q⟩ => ⟨v, e, wpAny_pure q⟩) fun _ _ e => e
  split
  · rename_i q
    have e : PySem.W.subIn K tb (.ref C) = some false := by
      rcases Bool.or_eq_true_iff.mp hn with z | z
      · have z2 := beq_iff_eq.mp z
        subst z2
        simp at q
      · exact beq_iff_eq.mp z
    refine wpAny_bind ((PySem.W.looks_subIn X e).here ?_)
    simp only [Bool.false_eq_true, if_false]
    refine wpAny_bind (wpAny_mono last (fun r s' hr => ?_) fun _ _ e => e)
    obtain ⟨v, rfl, qv⟩ := hr
    exact qv
  · refine wpAny_bind (wpAny_pure ?_)
    simp only [Bool.false_eq_true, if_false]
    refine wpAny_bind (wpAny_mono last (fun r s' hr => ?_) fun _ _ e => e)
    obtain ⟨v, rfl, qv⟩ := hr
    exact qv
end
/-! the rules -/
section
variable {X : Cx} {pins : List (Addr × Obj)} {σ : L2.St} {H : Hp} {s : Shared}
theorem ty_look {y : V} {u t : Value} (I : Inv X pins σ H s) (r : RelV y u) (ty : TyOf X.K H y t) (M : Model) : PySem.W.Looks M s.heap (typeOf u) t := by
  have at_ : ∀ {a : Addr} {o : Obj}, s.heap.get? a = some o → PySem.W.Looks M s.heap (typeOf (.ref a)) o.cls := fun h A Q E s2 k q => wpAny_typeOf_ref (k _ _ h) q
  cases ty with
  | non => cases (show u = Value.none from r); exact PySem.W.Looks.of_pure rfl
  | bl z => cases (show u = Value.bool z from r); exact PySem.W.Looks.of_pure rfl
  | int i => obtain ⟨k, e⟩ := (show ∃ k, u = Value.int i k from r); subst e; exact PySem.W.Looks.of_pure rfl
  | str z => obtain ⟨k, e⟩ := (show ∃ k, u = Value.str z k from r); subst e; exact PySem.W.Looks.of_pure rfl
  | flt z => obtain ⟨k, e⟩ := (show ∃ k, u = Value.float z k from r); subst e; exact PySem.W.Looks.of_pure rfl
  | @lst a xs ea =>
    cases (show u = Value.ref a from r)
    obtain ⟨_, _, n, _, h1⟩ := (show ObjOk X.prog X.w H s.heap a (.lst xs) from I.hok a _ ea)
    exact at_ h1
  | @frz a ob xs ea =>
    cases (show u = Value.ref a from r)
    obtain ⟨_, _, _, n, _, h1⟩ := (show ObjOk X.prog X.w H s.heap a (.frz ob (.lst xs)) from I.hok a _ ea)
    exact at_ h1
  | @tup a xs ea =>
    cases (show u = Value.ref a from r)
    obtain ⟨_, _, _, o, h1, h2, _⟩ := (show ObjOk X.prog X.w H s.heap a (.tup xs) from I.hok a _ ea)
    exact h2 ▸ at_ h1
  | @dK a kvs ea =>
    cases (show u = Value.ref a from r)
    obtain ⟨_, _, vs, _, o, es, ep, h1, h2, _⟩ := (show ObjOk X.prog X.w H s.heap a (.dK kvs) from I.hok a _ ea)
    exact h2.1 ▸ at_ h1
  | @dT a kvs ea =>
    cases (show u = Value.ref a from r)
    obtain ⟨_, _, vs, _, o, es, ep, h1, h2, _⟩ := (show ObjOk X.prog X.w H s.heap a (.dT kvs) from I.hok a _ ea)
    exact h2.1 ▸ at_ h1
  | @ins a D dx fs ea =>
    cases (show u = Value.ref a from r)
    obtain ⟨mA, J, _⟩ := ins_get I.hok ea
    obtain ⟨od, J, _⟩ := J.look
    exact J.type
/-- what the own == is asked of two values; neg: its opposite is wanted -/
def rOwn (K : PySem.W.Frag) (C : Addr) (sp : Sp) (E : XK) (neg : Bool) : R2 := fun x y H Q => ∃ a dx fs t, x = .ref a ∧ H a = some (.ins C dx fs) ∧ TyOf K H y t ∧ PySem.W.notFirst K C t = true ∧
  sp [x, y] H (fun v H' => ∃ r : Bool, v = .bl r ∧ Q (.bl (neg != r)) H') E
theorem run_own {CX : CXT} {n : Nat} {f : Addr} {fd : FuncData} {ps : List Str} {sp : Sp} {E : XK} {A : Around} {us : List Value} {vs : List V} {Q : VK} (F : FnOk X.prog X.w X.K X.mg X.base CX n f fd ps sp) (hb : Binds X.K fd ps []) (hx : Passes CX X E) (sb : Sub X n A)
    (I : Inv X pins σ H s) (r : Vals vs us) (h : sp vs H Q E) : wpAny (model X.prog X.w) A (call (.ref f) us) (EP X pins σ Q) X.xe s := by
  have e0 : Env0 X.prog X.w X.K X.mg X.base A X.stack s H := by
    have e := I.env0
    refine ⟨?_, e.mod, e.bs, e.bsz, e.funs, e.frf, e.hok, e.bare⟩
    rw [sb.fr]
    exact e.frames
  have hl := F.len _ _ _ _ h
  have bd : BindsTo s fd ⟨us, []⟩ (ps.zip us) := by
    have z := hb s us I.kIn (by rw [List.append_nil, ← r.length]; exact hl)
    rw [List.append_nil] at z
    exact z
  refine wpAny_call (codeAny_mono (F.run A X.stack s H ⟨us, []⟩ us vs Q E sb.room e0 bd r h) fun res s' hq => ?_)
  cases res with
  | error e => exact hx pins σ H s e s' I hq
  | ok fl =>
    cases fl with
    | ret u =>
      obtain ⟨v, H', I', rv, q⟩ := I.after hq
      exact ⟨v, H', I', rv, q⟩
    | next => exact False.elim hq
    | brk => exact False.elim hq
    | cont => exact False.elim hq
structure OwnEqF (K : PySem.W.Frag) (C f : Addr) (fd : FuncData) (ps : List Str) : Prop where
  eq : PySem.W.findIn K (.ref C) "__eq__" = some (some (.ref f))
  fn : PySem.W.isFn K (.ref f) = true
  ne : PySem.W.findIn K (.ref C) "__ne__" = some (some (.builtin "object.__ne__"))
  ob : PySem.W.mroIn K C (.type "object") = some true
  b : Binds K fd ps []
section
variable {CX : CXT} {n : Nat} {C f : Addr} {fd : FuncData} {ps : List Str} {sp : Sp} {E : XK}
theorem op_eqO (F : FnOk X.prog X.w X.K X.mg X.base CX n f fd ps sp) (O : OwnEqF X.K C f fd ps) (hx : Passes CX X E) (hr : Room n X.A) : OpR X (compareOp .Eq) (rOwn X.K C sp E false) := by
  intro pins s σ H x y u v Q I rx ry hq
  obtain ⟨a, dx, fs, t, ex, ha, ty, nf, h⟩ := hq
  subst ex
  cases (show u = Value.ref a from rx)
  obtain ⟨mA, J, _⟩ := ins_get I.hok ha
  obtain ⟨od, J, _⟩ := J.look
  obtain ⟨m, hF⟩ := I.fr
  show wpAny (model X.prog X.w) X.A (richCompare .Eq (.ref a) v) (EP X pins σ Q) X.xe s
  refine PySem.W.cmp_K (op := .Eq) (tb := t) hr.units0 hF I.ok.mod.kin J (ty_look I ry ty _) nf O.eq O.fn ?_
  refine wpAny_mono (run_own F O.b hx ⟨hr, rfl⟩ I (.cons rx (.cons ry .nil)) h) (fun z s' hz => ?_) fun _ _ e => e
  obtain ⟨_, H', I', rz, r, rfl, q⟩ := hz
  cases (show z = Value.bool r from rz)
  exact ⟨.bl r, H', I', rfl, by cases r <;> exact q⟩
theorem op_neO (F : FnOk X.prog X.w X.K X.mg X.base CX n f fd ps sp) (O : OwnEqF X.K C f fd ps) (hx : Passes CX X E) (hr : Room (n + 1) X.A) : OpR X (compareOp .NotEq) (rOwn X.K C sp E true) := by
  intro pins s σ H x y u v Q I rx ry hq
  obtain ⟨a, dx, fs, t, ex, ha, ty, nf, h⟩ := hq
  subst ex
  cases (show u = Value.ref a from rx)
  obtain ⟨mA, J, _⟩ := ins_get I.hok ha
  obtain ⟨od, J, _⟩ := J.look
  show wpAny (model X.prog X.w) X.A (richCompare .NotEq (.ref a) v) (EP X pins σ Q) X.xe s
  refine ne_own (tb := t) (by have := hr.units; omega) I.kIn J (ty_look I ry ty _) nf O.ne O.ob O.eq O.fn ?_
  have sb : Sub X (n + 1) X.A := ⟨hr, rfl⟩
  refine wpAny_mono (run_own F O.b hx sb.in1 I (.cons rx (.cons ry .nil)) h) (fun z s' hz => ?_) fun _ _ e => e
  obtain ⟨_, H', I', rz, r, rfl, q⟩ := hz
  cases (show z = Value.bool r from rz)
  exact ⟨r, rfl, .bl (!r), H', I', rfl, by cases r <;> exact q⟩
end
end
end KZ
end

section
set_option Elab.async false
set_option linter.all false
set_option maxRecDepth 100000
set_option maxHeartbeats 4000000
/-! o.m(k = v, ..); a promise that lets nothing out -/
namespace KZ
open PySem PySem.Spec PyProof.Rows L2
section
variable {X : Cx} {cx : CXT} {k : Nat} {f C : Addr} {fd : FuncData} {ps ks : List Str} {sp : Sp} {E : XK} {m : Str} {o : Expr} {ta : TE} {apos pos : Pos} {kws : List Keyword} {tk : TA} {g : List Value → List Value → List Value} {gV : List V → List V → List V}
def tMethK (C : Addr) (m : Str) (sp : Sp) (gV : List V → List V → List V) (E : XK) (ta : TE) (tk : TA) : TE := fun σ H Q => ta σ H fun x H1 => ∃ a dx fs, x = .ref a ∧ H1 a = some (.ins C dx fs) ∧ fs.lookup m = none ∧ tk σ H1 fun zs H2 => sp (gV [x] zs) H2 Q E
theorem pe_methK0 {pl : Sem Bool} (he : PE X o ta) (c : Cls X.K C) (hm : Meth X.K C m f) (F : FnOk X.prog X.w X.K X.mg X.base cx k f fd ps sp) (hr : Room k X.A) (hb : KBinds X.K fd ps ks g gV) (hx : Passes cx X E) (hkw : PK X kws tk)
    (hall : (backToKw pos (keywordEach kws X.env)).all (·.1.isSome) = true := by rfl) (hks : (backToKw pos (keywordEach kws X.env)).filterMap (·.1) = ks := by rfl)
    (hpl : ((backTo pos (starEach [] X.env)).any (·.1) || (backToKw pos (keywordEach kws X.env)).any (·.1.isNone)) = false := by rfl)
    (ht : eval (.Call (.Attribute o m apos) [] kws pos) X.env = (do
      let ov ← eval o X.env
      standAt apos.atName
      let (f, first) ← holding [ov] (getMethod ov m pl)
      callWith pos f first (backTo pos (starEach [] X.env)) (backToKw pos (keywordEach kws X.env))) := by rfl) :
    PE X (.Call (.Attribute o m apos) [] kws pos) (tMethK C m sp gV E ta tk) := by
  refine ⟨fun pins s σ H Q I h => ?_⟩
  refine PySem.W.methodCall_KW (pl := pl) (thn (he.run pins s σ H _ I h) fun u s1 ⟨x, H1, I1, rx, a, dx, fs, ex, ea, l, q⟩ => ?_) ht
  subst ex
  obtain rfl : u = Value.ref a := rx
  refine getmeth_ok I1 ea c hm l ?_
  refine PySem.W.callWith_KW0 (first := [.ref a]) (h₀ := X.base) I.ok.mod.kin hm.kp hall (thn (hkw.run pos pins s1 σ H1 _ I1 q) fun ws s2 ⟨zs, H2, I2, rz, q2⟩ => ⟨I2.kIn, ?_⟩) hpl
  rw [hks]
  exact run_fnk (us := [.ref a]) (vs := [.ref a]) F hr hb hx I2 (.cons rfl .nil) rz q2
end
section
variable {P : Program} {w : World} {K : PySem.W.Frag} {mg : Str → Option Value} {base : Heap} {k : Nat} {f : Addr} {fd : FuncData} {ps : List Str} {sp : Sp}
/-- where nothing is let out -/
theorem FnOk.x0 (F : FnOk P w K mg base (L2.CX P w) k f fd ps sp) : FnOk P w K mg base CX0 k f fd ps (fun vs H Q _ => sp vs H Q fun _ _ _ => False) :=
  ⟨fun vs H Q E h => F.len vs H Q _ h, fun A outer s H args us vs Q E hr he hb hv hs => codeAny_mono (F.run A outer s H args us vs Q _ hr he hb hv hs) fun r s' hq => by
    cases r with
    | error e =>
      obtain ⟨_, _, _, _, _, _, _, _, _, _, _, _, h⟩ := hq
      exact h.elim
    | ok fl => cases fl <;> exact hq⟩
end
end KZ
end

section
set_option Elab.async false
set_option linter.all false
set_option maxRecDepth 100000
/-! the text's statements, by number -/
namespace K34
open PySem
def top (i : Nat) : Stmt := PySem.Challenge.pw_stayopen_k34_zones_of_histories.main.body.getD i (.Pass ⟨0, 0, 0, 0⟩)
def mem (i j : Nat) : Stmt := match top i with
  | .ClassDef _ _ _ b _ _ _ _ _ _ _ => b.getD j (.Pass ⟨0, 0, 0, 0⟩)
  | s => s
end K34
end

section
set_option Elab.async false
set_option linter.all false
set_option maxRecDepth 100000
set_option maxHeartbeats 0
/-! the head: facts by names -/
namespace K34
open PySem L2 KZ

def fn0 : List He.DefD := [⟨("is_integer", none), "is_integer", "is_integer", defArgs (top 2), defBody (top 2), defScope (top 2), [], []⟩, ⟨("is_name", none), "is_name", "is_name", defArgs (top 3), defBody (top 3), defScope (top 3), [], []⟩, ⟨("copied", none), "copied", "copied", defArgs (top 5), defBody (top 5), defScope (top 5), [], []⟩, ⟨("check_ask", none), "check_ask", "check_ask", defArgs (top 15), defBody (top 15), defScope (top 15), [], []⟩, ⟨("is_count", none), "is_count", "is_count", defArgs (top 16), defBody (top 16), defScope (top 16), [], []⟩, ⟨("need_asks", none), "need_asks", "need_asks", defArgs (top 17), defBody (top 17), defScope (top 17), [], []⟩, ⟨("told_lots", none), "told_lots", "told_lots", defArgs (top 18), defBody (top 18), defScope (top 18), [], []⟩, ⟨("parts_of", none), "parts_of", "parts_of", defArgs (top 19), defBody (top 19), defScope (top 19), [], []⟩, ⟨("parts", none), "parts", "parts", defArgs (top 13), defBody (top 13), defScope (top 13), [], []⟩, ⟨("zones", none), "zones", "zones", defArgs (top 14), defBody (top 14), defScope (top 14), [], []⟩]
def fn1 : List He.DefD := [⟨("_law_well", none), "_law_well", "_law_well", defArgs (top 21), defBody (top 21), defScope (top 21), [], []⟩, ⟨("_law_draw", none), "_law_draw", "_law_draw", defArgs (top 22), defBody (top 22), defScope (top 22), [], []⟩, ⟨("_law_one", none), "_law_one", "_law_one", defArgs (top 23), defBody (top 23), defScope (top 23), [], []⟩, ⟨("_law_rows", none), "_law_rows", "_law_rows", defArgs (top 24), defBody (top 24), defScope (top 24), [], []⟩, ⟨("_law_made", none), "_law_made", "_law_made", defArgs (top 25), defBody (top 25), defScope (top 25), [], []⟩, ⟨("_law_parts", none), "_law_parts", "_law_parts", defArgs (top 26), defBody (top 26), defScope (top 26), [], []⟩, ⟨("_law_zone", none), "_law_zone", "_law_zone", defArgs (top 27), defBody (top 27), defScope (top 27), [], []⟩, ⟨("_law_zones", none), "_law_zones", "_law_zones", defArgs (top 28), defBody (top 28), defScope (top 28), [], []⟩, ⟨("_law_heard", none), "_law_heard", "_law_heard", defArgs (top 29), defBody (top 29), defScope (top 29), [], []⟩, ⟨("_law_history_right", none), "_law_history_right", "_law_history_right", defArgs (top 30), defBody (top 30), defScope (top 30), [], []⟩]
def fn2 : List He.DefD := [⟨("_law_unlike_right", none), "_law_unlike_right", "_law_unlike_right", defArgs (top 31), defBody (top 31), defScope (top 31), [], []⟩, ⟨("_law_refused_right", none), "_law_refused_right", "_law_refused_right", defArgs (top 32), defBody (top 32), defScope (top 32), [], []⟩, ⟨("_law_no_history_right", none), "_law_no_history_right", "_law_no_history_right", defArgs (top 33), defBody (top 33), defScope (top 33), [], []⟩, ⟨("law", none), "law", "law", defArgs (top 34), defBody (top 34), defScope (top 34), [], []⟩, ⟨("BadAsk", some "__init__"), "__init__", "BadAsk.__init__", defArgs (mem 8 0), defBody (mem 8 0), defScope (mem 8 0), [], []⟩, ⟨("TooMany", some "__init__"), "__init__", "TooMany.__init__", defArgs (mem 9 0), defBody (mem 9 0), defScope (mem 9 0), [], []⟩, ⟨("Ask", some "__init__"), "__init__", "Ask.__init__", defArgs (mem 12 0), defBody (mem 12 0), defScope (mem 12 0), [.non, .non], []⟩, ⟨("Ask", some "is_ahead"), "is_ahead", "Ask.is_ahead", defArgs (mem 12 1), defBody (mem 12 1), defScope (mem 12 1), [], []⟩, ⟨("Ask", some "__eq__"), "__eq__", "Ask.__eq__", defArgs (mem 12 2), defBody (mem 12 2), defScope (mem 12 2), [], []⟩]
def fns : List He.DefD := fn0 ++ fn1 ++ fn2
def fa0 : List He.Fa := [.glo "is_integer", .glo "is_name", .glo "copied", .glo "check_ask", .glo "is_count", .glo "need_asks", .glo "told_lots", .glo "parts_of", .glo "parts", .glo "zones", .glo "_law_well", .glo "_law_draw", .glo "_law_one", .glo "_law_rows", .glo "_law_made", .glo "_law_parts", .glo "_law_zone", .glo "_law_zones", .glo "_law_heard", .glo "_law_history_right", .glo "_law_unlike_right", .glo "_law_refused_right", .glo "_law_no_history_right", .glo "law", .glo "OpenError", .glo "BadAsk", .glo "TooMany", .glo "Ask", .free "isinstance", .free "int"]
def fa1 : List He.Fa := [.free "bool", .free "str", .free "len", .free "all", .free "list", .free "tuple", .free "dict", .free "range", .free "max", .free "min", .free "sorted", .free "repr", .free "abs", .free "enumerate", .free "ValueError", .int "MOST_ASKS" 1000, .str "LETTERS" "abcdefghijklmnopqrstuvwxyz", .mkr "Ask", .exm "BadAsk" "OpenError" true, .exm "TooMany" "OpenError" true, .cls "Ask", .noat "Ask" "client", .noat "Ask" "word", .noat "Ask" "begun", .noat "Ask" "ended", .noat "Ask" "told", .meth "Ask" "is_ahead", .meth "Ask" "__eq__"]
def fas : List He.Fa := fa0 ++ fa1
def nm0 : List Str := ["LETTERS", "is_integer", "is_name", "copied", "OpenError", "BadAsk", "TooMany", "MOST_ASKS", "Ask", "parts", "zones", "check_ask", "is_count", "need_asks", "told_lots", "parts_of", "_law_well", "_law_draw", "_law_one", "_law_rows", "_law_made", "_law_parts", "_law_zone", "_law_zones", "_law_heard", "_law_history_right", "_law_unlike_right", "_law_refused_right", "_law_no_history_right"]
def nms : List Str := nm0
def kits (K : PySem.W.Frag) : List (Value × Value × Bool) := [((.ref (He.ga K "BadAsk")), (.ref (He.ga K "BadAsk")), true), ((.ref (He.ga K "BadAsk")), (.type "ValueError"), true), ((.ref (He.ga K "BadAsk")), (.ref (He.ga K "TooMany")), false), ((.ref (He.ga K "TooMany")), (.ref (He.ga K "BadAsk")), false), ((.ref (He.ga K "TooMany")), (.ref (He.ga K "TooMany")), true), ((.ref (He.ga K "Ask")), (.ref (He.ga K "Ask")), true), ((.type "NoneType"), (.ref (He.ga K "Ask")), false), ((.type "bool"), (.ref (He.ga K "Ask")), false), ((.type "int"), (.ref (He.ga K "Ask")), false), ((.type "str"), (.ref (He.ga K "Ask")), false), ((.type "list"), (.ref (He.ga K "Ask")), false), ((.type "tuple"), (.ref (He.ga K "Ask")), false), ((.type "dict"), (.ref (He.ga K "Ask")), false), ((.ref (He.ga K "Ask")), (.type "list"), false), ((.ref (He.ga K "Ask")), (.type "tuple"), false), ((.type "NoneType"), (.type "list"), false), ((.type "NoneType"), (.type "tuple"), false), ((.type "bool"), (.type "list"), false), ((.type "bool"), (.type "tuple"), false), ((.type "int"), (.type "list"), false), ((.type "int"), (.type "tuple"), false), ((.type "str"), (.type "list"), false), ((.type "str"), (.type "tuple"), false), ((.type "dict"), (.type "list"), false), ((.type "dict"), (.type "tuple"), false)]
def kitsB (K : PySem.W.Frag) : Bool := (kits K).all fun x => decide (PySem.W.kitOne K x.1 x.2.1 = some x.2.2)
def askB (K : PySem.W.Frag) : Bool := He.eqO (PySem.W.findIn K (.ref (He.ga K "Ask")) "__class__") (some (some (.builtin "object.__class__"))) && (He.eqO (PySem.W.specialIn K (.builtin "object.__class__") "__get__") (some (some (.builtin "getset_descriptor.__get__"))) && (decide (PySem.W.takesIn K (.builtin "object.__class__") = some true) && (decide (PySem.W.mroIn K (He.ga K "Ask") (.type "object") = some true) &&
  He.eqO (PySem.W.findIn K (.ref (He.ga K "Ask")) "__ne__") (some (some (.builtin "object.__ne__"))))))
def firstB (K : PySem.W.Frag) : Bool := PySem.W.notFirst K (He.ga K "Ask") (.ref (He.ga K "Ask")) && (["NoneType", "bool", "int", "str", "list", "tuple", "dict"] : List String).all fun T => PySem.W.notFirst K (He.ga K "Ask") (.type T)
def tU (K : PySem.W.Frag) : Addr := (He.cT K ("_law_unlike_right", none)).2
def tR (K : PySem.W.Frag) : Addr := (He.cT K ("_law_refused_right", none)).2
def tN (K : PySem.W.Frag) : Addr := (He.cT K ("_law_no_history_right", none)).2
def apartB (K : PySem.W.Frag) : Bool := !(Nat.beq (tU K) (tR K)) && (!(Nat.beq (tU K) (tN K)) && !(Nat.beq (tR K) (tN K)))
def exC (K : PySem.W.Frag) : Bool := errI K (He.ga K "BadAsk") ["part"] && (errI K (He.ga K "TooMany") ["what", "most"] && (kitsB K && (askB K && (firstB K && apartB K))))
def asW (fs cs : List Str) (ms : List (Str × Str)) (g : Addr → Option Obj) : List Addr :=
  let K0 := He.frG g [mainGlobals]
  let nx := fun a => ((g a).map He.refsD).getD []
  (asZ fs cs g ++ (ms.map fun p => let C := He.ga K0 p.1; let l := nx C; let i := He.ma (He.frG g (C :: l)) C p.2; i :: nx i).flatten).eraseDups
abbrev R : PySem.W.OpenRow := PySem.W.OpenLaw.row PySem.Challenge.rw_stayopen_k34_zones_of_histories
abbrev tfs : List He.Defn := [("_law_unlike_right", none), ("_law_refused_right", none), ("_law_no_history_right", none)]
def selF : List Str := ["is_integer", "is_name", "copied", "check_ask", "is_count", "need_asks", "told_lots", "parts_of", "parts", "zones", "_law_well", "_law_draw", "_law_one", "_law_rows", "_law_made", "_law_parts", "_law_zone", "_law_zones", "_law_heard", "_law_history_right", "_law_unlike_right", "_law_refused_right", "_law_no_history_right", "law"]
def selC : List Str := ["OpenError", "BadAsk", "TooMany", "Ask"]
abbrev sel : (Addr → Option Obj) → List Addr := asW selF selC [("Ask", "is_ahead"), ("Ask", "__eq__")]
abbrev hk : PySem.W.Hook := hookY sel fas fns [] tfs exC
def ob (s : PySem.W.SharedT) : He.AlX := obsY sel fas fns [] tfs exC (HandSHeadRun.getT s)
theorem ob_eq (s : PySem.W.SharedT) : ob s = hk.obs s.abs := obsY_eq _ _ _ _ _ _ (HandSHeadRun.getT_eq s)
abbrev Q0 : Program := PySem.W.view R.prog [34]
open PySem.W PySem.Calls PyProof.Rows in
noncomputable abbrev sawL (w : World) (s : PySem.W.SharedT) : Bool := HandSHeadRun.looksF R.prog (boot_heap w.params) s.abs
open PySem.W PySem.Calls PyProof.Rows in
noncomputable abbrev sawS (s : PySem.W.SharedT) := HandSHeadRun.seenQ Q0 nms (importedModules R.prog.main.body) (fun s => xlAt Q0 [] s && recOk R.toRowW.records s) s.abs
theorem look (w : World) (os : OsState) : (endH 20000 R.prog w os).map (sawL w) = some true := by
  kernel_rfl
theorem seen (w : World) (os : OsState) : (endH 20000 R.prog w os).map sawS = some (PySem.W.openGood Q0 nms) := by
  kernel_rfl
theorem obW (w : World) (os : OsState) : (endH 20000 R.prog w os).map ob = some (hk.val w) := by
  kernel_rfl
theorem run (w : World) : HandSHeadRun.RunEq R Q0 hk ob 20000 nms w := by
  intro os
  obtain ⟨r1, h1, e1⟩ := endH_map (look w os)
  obtain ⟨r2, h2, e2⟩ := endH_map (seen w os)
  obtain ⟨r3, h3, e3⟩ := endH_map (obW w os)
  obtain rfl := Option.some.inj (h1.symm.trans h2)
  obtain rfl := Option.some.inj (h1.symm.trans h3)
  rw [h1]
  exact congrArg some (Prod.ext e1 (Prod.ext e2 e3))
end K34
end

section
set_option Elab.async false
set_option linter.all false
set_option maxRecDepth 100000
set_option maxHeartbeats 4000000
/-! the checks -/
namespace K34
open PySem L2 KZ
abbrev sIsInt : Stmt := top 2
abbrev sIsName : Stmt := top 3

theorem Dv.mono {K : PySem.W.Frag} {H H' : Hp} (e : Same H H') {v : V} {d : PyData} (h : Dv K H v d) : Dv K H' v d := by
  have sT : ∀ {a xs}, SqT K H a xs → SqT K H' a xs := fun h => by
    rcases h with (h | ⟨o, h⟩) | h
    · exact .inl (.inl (e _ _ h))
    · exact .inl (.inr ⟨o, e _ _ h⟩)
    · exact .inr h
  have rD : ∀ {a u}, Rd H a u → Rd H' a u := fun h => by
    rcases h with h | ⟨o, h⟩
    · exact .inl (e _ _ h)
    · exact .inr ⟨o, e _ _ h⟩
  refine Dv.rec (motive_1 := fun v d _ => Dv K H' v d) (motive_2 := fun v d _ => Dvs K H' v d) (motive_3 := fun v d _ => Dks K H' v d) .non .bl .int .str ?_ ?_ ?_ .nil ?_ .nil ?_ h
  · intro a xs ds h1 _ i; exact .lst (e.seq h1) i
  · intro a xs ds h1 _ i; exact .tup (sT h1) i
  · intro a xs ds h1 _ i; exact .dic (rD h1) i
  · intro v vs d ds _ _ i j; exact .cons i j
  · intro k v kvs d ps _ _ i j; exact .cons i j
/-- the name of a datum's class -/
def tyN : PyData → String
  | .none => "NoneType" | .bool _ => "bool" | .int _ => "int" | .str _ => "str" | .list _ => "list" | .tuple _ => "tuple" | .dict _ => "dict"
theorem Dv.ty {K : PySem.W.Frag} {H : Hp} {v : V} {d : PyData} (h : Dv K H v d) : TyX K H v (.type (tyN d)) := by
  cases h with
  | non => exact .base .non
  | bl b => exact .base (.bl b)
  | int i => exact .base (.int i)
  | str x => exact .base (.str x)
  | lst hs _ =>
    rcases hs with (q | ⟨o, q⟩) | ⟨o, its, n, q, c, _⟩
    · exact .base (.lst q)
    · exact .base (.frz q)
    · exact .kList q c
  | tup hs _ =>
    rcases hs with (q | ⟨o, q⟩) | ⟨o, its, n, q, c, _⟩
    · exact .base (.tup q)
    · exact .fTuple q
    · exact .kTuple q c
  | dic hs _ =>
    rcases hs with q | ⟨o, q⟩
    · exact .base (.dK q)
    · exact .fDict q
def isT (t : String) : PyData → Bool := fun d => match t, d with
  | "int", .int _ => true
  | "int", .bool _ => true
  | "bool", .bool _ => true
  | "str", .str _ => true
  | "list", .list _ => true
  | "tuple", .tuple _ => true
  | "dict", .dict _ => true
  | _, _ => false
/-- isinstance(x, c) of data, c a built-in class -/
def rIsD (K : PySem.W.Frag) (c : String) : List V → Hp → VK → Prop := fun xs H Q => ∃ (v : V) (d : PyData), xs = [v, .ty c] ∧ Dv K H v d ∧ Q (.bl (isT c d)) H
def clsL : List String := ["int", "bool", "str", "list", "tuple", "dict"]
def isTN (c t : String) : Bool := decide (t = c) || (decide (c = "int") && decide (t = "bool"))
theorem kit_tab : ∀ c ∈ clsL, ∀ t ∈ ["NoneType", "bool", "int", "str", "list", "tuple", "dict"], kitB t c = some (isTN c t) := by decide +kernel
theorem isT_tab : ∀ c ∈ clsL, isTN c "NoneType" = isT c .none ∧ (∀ b, isTN c "bool" = isT c (.bool b)) ∧ (∀ i, isTN c "int" = isT c (.int i)) ∧ (∀ x, isTN c "str" = isT c (.str x)) ∧ (∀ l, isTN c "list" = isT c (.list l)) ∧ (∀ l, isTN c "tuple" = isT c (.tuple l)) ∧ ∀ l, isTN c "dict" = isT c (.dict l) := by
  intro c hc
  simp only [clsL, List.mem_cons, List.not_mem_nil, or_false] at hc
  rcases hc with rfl | rfl | rfl | rfl | rfl | rfl <;> exact ⟨rfl, fun _ => rfl, fun _ => rfl, fun _ => rfl, fun _ => rfl, fun _ => rfl, fun _ => rfl⟩
theorem kit_d {K : PySem.W.Frag} {c : String} (hc : c ∈ clsL) (d : PyData) : PySem.W.kitOne K (.type (tyN d)) (.type c) = some (isT c d) := by
  obtain ⟨h1, h2, h3, h4, h5, h6, h7⟩ := isT_tab c hc
  have k := kit_tab c hc
  refine kit_ty ?_
  cases d with
  | none => rw [← h1]; exact k "NoneType" (by decide)
  | bool b => rw [← h2]; exact k "bool" (by decide)
  | int i => rw [← h3]; exact k "int" (by decide)
  | str x => rw [← h4]; exact k "str" (by decide)
  | list x => rw [← h5]; exact k "list" (by decide)
  | tuple x => rw [← h6]; exact k "tuple" (by decide)
  | dict x => rw [← h7]; exact k "dict" (by decide)
theorem call_isD {X : Cx} {c : String} (hc : c ∈ clsL := by decide) : CallR X (.builtin "isinstance") (rIsD X.K c) := by
  intro pins s σ H xs us Q I r h
  obtain ⟨v, d, rfl, hd, q⟩ := h
  exact call_isi pins s σ H _ us Q I r ⟨v, .ty c, _, _, _, rfl, .ty c, Dv.ty hd, kit_d hc d, q⟩

structure B0 (mg : Str → Option Value) : Prop where
  isi : mg "isinstance" = none
  int : mg "int" = none
  bool : mg "bool" = none
  str : mg "str" = none
  len : mg "len" = none
  all : mg "all" = none
  list : mg "list" = none
  tuple : mg "tuple" = none
  dict : mg "dict" = none
def isInt : PyData → Bool
  | .int _ => true
  | _ => false
def spIsInt (K : PySem.W.Frag) : Sp := fun vs H Q _ => ∃ v d, vs = [v] ∧ Dv K H v d ∧ Q (.bl (isInt d)) H
section
variable {P : Program} {w : World} {K : PySem.W.Frag} {mg : Str → Option Value} {base : Heap}
theorem scIsInt : FnScope ["value"] ["value"] (defScope sIsInt) := ⟨rfl, rfl, rfl, by decide +kernel, rfl, by decide +kernel, by decide +kernel⟩
theorem ok_is_integer {f : Addr} {fd : FuncData} (F : Fun K "is_integer" "is_integer" sIsInt f fd) (T : B0 mg) : FnOk P w K mg base CX0 1 f fd ["value"] (spIsInt K) := by
  refine F.ok scIsInt (fun vs H Q E h => ?_) (fun cdv A outer s H vs Q E hr h => ?_)
  · obtain ⟨v, d, rfl, _⟩ := h
    rfl
  · obtain ⟨v, d, rfl, hd, q⟩ := h
    refine ⟨_, pss_one (ps_ret (pe_and (pe_callB (call_isD (c := "int")) (by rfl) T.isi (by decide +kernel) (pa_cons (pv 0) (pa_cons (pe_bltn (v := .ty "int") (by rfl) T.int (by decide +kernel) rfl) pa_nil)))
      (pe_one (pe_not (pe_callB (call_isD (c := "bool")) (by rfl) T.isi (by decide +kernel) (pa_cons (pv 0) (pa_cons (pe_bltn (v := .ty "bool") (by rfl) T.bool (by decide +kernel) rfl) pa_nil))))))), ?_⟩
    refine ⟨v, rfl, v, d, rfl, hd, _, rfl, ?_⟩
    cases e : isT "int" d with
    | false =>
      refine iteF ?_
      cases d <;> first | exact q | cases e
    | true =>
      refine iteT ⟨v, rfl, v, d, rfl, hd, _, rfl, ?_⟩
      cases d <;> first | exact q | cases e
end
end K34
end

section
set_option Elab.async false
set_option linter.all false
set_option maxRecDepth 100000
set_option maxHeartbeats 4000000
/-! the checks, further -/
namespace K34
open PySem L2 KZ
abbrev lets : Str := "abcdefghijklmnopqrstuvwxyz"
def within (l m : Int) : PyData → Bool
  | .int i => decide (l ≤ i) && decide (i ≤ m)
  | _ => false
def isName : PyData → Bool
  | .str x => decide (1 ≤ x.length) && decide (x.length ≤ 8) && x.cps.toList.all fun c => decide (c ∈ lets.cps.toList)
  | _ => false
/-- the program's constants and defs, as the top has left them -/
structure C0 (mg : Str → Option Value) (fI : Addr) : Prop where
  lets : ∃ t, mg "LETTERS" = some (.str lets t)
  gI : mg "is_integer" = some (.ref fI)
def spWithin (K : PySem.W.Frag) : Sp := fun vs H Q _ => ∃ v d l m, vs = [v, .int l, .int m] ∧ Dv K H v d ∧ Q (.bl (within l m d)) H
def spPlace (K : PySem.W.Frag) : Sp := fun vs H Q _ => ∃ v d, vs = [v] ∧ Dv K H v d ∧ Q (.bl (within 0 999999999 d)) H
/-- the heap may have grown -/
def spName (K : PySem.W.Frag) : Sp := fun vs H Q _ => ∃ v d, vs = [v] ∧ Dv K H v d ∧ (∀ x, d = .str x → x.length ≤ 1000) ∧ ∀ H', Same H H' → Q (.bl (isName d)) H'
theorem yes_go {σ : L2.St} {H : Hp} {A B : Hp → Prop} (h : A H) : tYes σ H (fun b H3 => if b = true then A H3 else B H3) := by
  show (if true = true then A H else B H)
  rw [if_pos rfl]
  exact h
theorem same_new {H : Hp} {p : Addr} {o : HO} (h : H p = none) : Same H (upd H p o) := fun b u e => by
  rw [upd_ne (ne_of_none e h)]
  exact e
section
variable {P : Program} {w : World} {K : PySem.W.Frag} {mg : Str → Option Value} {base : Heap} {fI fW : Addr} {dI dW : FuncData}
theorem scName : FnScope ["value", "letter"] ["value"] (defScope sIsName) := ⟨rfl, rfl, rfl, by decide +kernel, rfl, by decide +kernel, by decide +kernel⟩
theorem ok_is_name {f : Addr} {fd : FuncData} (F : Fun K "is_name" "is_name" sIsName f fd) (T : B0 mg) (U : C0 mg fI) : FnOk P w K mg base CX0 1 f fd ["value"] (spName K) := by
  obtain ⟨t, hl⟩ := U.lets
  refine F.ok scName (fun vs H Q E h => ?_) (fun cdv A outer s H vs Q E hr h => ?_)
  · obtain ⟨v, d, rfl, _⟩ := h
    rfl
  · obtain ⟨v, d, rfl, hd, hsz, q⟩ := h
    refine ⟨_, pss_cons (ps_if (PW.pt (pw_or (pt_not (pt_val (pe_callB (call_isD (c := "str")) (by rfl) T.isi (by decide +kernel) (pa_cons (pv 0) (pa_cons (pe_bltn (v := .ty "str") (by rfl) T.str (by decide +kernel) rfl) pa_nil)))))
        (pw_or1 (pt_not (pt_chain op_le op_le pe_int (pe_callB call_len (by rfl) T.len PySem.boot_len (pa_cons (pv 0) pa_nil)) pe_int)))))
        (pss_one (ps_ret pe_bl)) pss_nil)
      (pss_one (ps_ret (pe_callB (cr_all rfl) (by rfl) T.all (by decide +kernel) (pa_cons (pe_lc (own := [("letter", 1)]) (g := gName 1) (tt := tYes) (by rfl) scName.nd (pi_str (pv 0))
        (blkOk_by (own := [("letter", 1)]) (N := ["value", "letter"]) (sc := defScope sIsName) (by decide +kernel)) (fun _ _ _ _ _ => pg_name (i := 1) scName.nd rfl (Or.inl rfl)) (fun _ _ _ _ _ => pts_nil)
        (fun _ _ _ _ _ => pe_cmpR op_in_sign (pv 1) (pe_glob (v := .str lets) (by rfl) hl ⟨_, rfl⟩) (by rfl))) pa_nil)))), ?_⟩
    refine ⟨v, rfl, v, d, rfl, hd, _, rfl, ?_⟩
    cases d with
    | str x =>
      cases hd
      have hx := hsz x rfl
      refine iteF ⟨_, rfl, .str x, x.length, rfl, ⟨Nat.le_trans hx (by decide), rfl⟩, 1, (x.length : Int), rfl, rfl, _, rfl, ?_⟩
      refine ite2 (fun h1 => ⟨_, _, rfl, rfl, _, rfl, ?_⟩) (fun h1 => ⟨_, rfl, ?_⟩)
      · have g1 : 1 ≤ x.length := by have := of_decide_eq_true h1; omega
        by_cases h2 : x.length ≤ 8
        · rw [show decide ((x.length : Int) ≤ 8) = true from decide_eq_true (by omega)]
          refine iteF ⟨.str x, rfl, x, rfl, fun D hD => lc_it walk_str (fun i H' => H' = upd H D (.lst ((x.cps.toList.take i).map fun c => V.bl (decide (c ∈ lets.cps.toList))))) (by simp) (fun _ _ _ _ => True.intro) ?_ ?_⟩
          · rintro i y H1 H2 hi rfl ⟨rfl, c, hc, rfl⟩
            have hlt : i < x.cps.toList.length := by simpa using hi
            refine ⟨rfl, ?_⟩
            refine yes_go ?_
            refine ⟨_, rfl, c, lets, rfl, rfl, _, upd_same, ?_, ?_⟩
            · rw [List.length_map, List.length_take]
              have : x.cps.toList.length = x.length := by simp [Str.length]
              exact Nat.lt_of_le_of_lt (Nat.min_le_left _ _) (Nat.lt_of_lt_of_le hlt (by rw [this]; exact Nat.le_trans hx (by decide)))
            · rw [upd_upd]
              congr 2
              have e : x.cps.toList[i]? = some c := by simpa using hc
              rw [List.take_add_one, e]
              simp
          · rintro H1 rfl
            refine ⟨D, x.cps.toList.map fun c => decide (c ∈ lets.cps.toList), rfl, SqL.of ?_, ?_⟩
            · rw [upd_same, List.map_map, List.take_of_length_le (by simp)]
              rfl
            · have e : isName (.str x) = (x.cps.toList.map fun c => decide (c ∈ lets.cps.toList)).all id := by
                simp [isName, g1, h2, List.all_map]
              rw [← e]
              exact q _ (same_new hD)
        · rw [show decide ((x.length : Int) ≤ 8) = false from decide_eq_false (by omega)]
          have e : isName (.str x) = false := by simp [isName, h2]
          rw [e] at q
          exact iteT (q H (Same.refl H))
      · have e : isName (.str x) = false := by
          have g1 : ¬ 1 ≤ x.length := fun z => h1 (decide_eq_true (by omega))
          simp [isName, g1]
        rw [e] at q
        exact iteT (q H (Same.refl H))
    | _ => exact iteT (iteT (q H (Same.refl H)))
end
end K34
end

section
set_option Elab.async false
set_option linter.all false
set_option maxRecDepth 100000
set_option maxHeartbeats 4000000
/-! copied -/
namespace K34
open PySem L2 KZ
abbrev ka : Str := "a"
abbrev kvA : List (Key × V) := [(Sum.inr ka, V.int 3)]
abbrev sCopied : Stmt := top 5
/-- what may be copied: so deep -/
def Cp : Nat → PyData → Prop
  | _, .none => True
  | _, .bool _ => True
  | _, .int _ => True
  | _, .str _ => True
  | n + 1, .list ds => ds.length ≤ 100 ∧ ∀ d ∈ ds, Cp n d
  | n + 1, .tuple ds => ds.length ≤ 100 ∧ ∀ d ∈ ds, Cp n d
  | _ + 1, .dict ps => ps = [(.str "a", .int 3)]
  | 0, _ => False
def NoFrz (G : Hp) : Prop := ∀ b o u, G b ≠ some (.frz o u)
/-- G' holds more than G, and nothing of what H had beside G -/
def Beside (H G G' : Hp) : Prop := ∀ b, H b ≠ none → G b = none → G' b = none
def spCopied (n : Nat) (K : PySem.W.Frag) : Sp := fun vs H Q _ => ∃ v d G, vs = [v] ∧ Cp n d ∧ Same G H ∧ NoFrz G ∧ Dv K G v d ∧
  ∀ v' G' H', Same G G' → NoFrz G' → Beside H G G' → Same G' H' → Same H H' → Dv K G' v' d → Q v' H'
theorem noFrz_upd {G : Hp} {p : Addr} {o : HO} (h : NoFrz G) (ho : ∀ x u, o ≠ .frz x u) : NoFrz (upd G p o) := fun b x u e => by
  by_cases hb : b = p
  · rw [hb, upd_same] at e
    exact ho x u (Option.some.inj e)
  · rw [upd_ne hb] at e
    exact h b x u e
theorem Dvs.len {K : PySem.W.Frag} {H : Hp} : ∀ {vs : List V} {ds : List PyData}, Dvs K H vs ds → vs.length = ds.length
  | _, _, .nil => rfl
  | _, _, .cons _ t => congrArg (· + 1) (Dvs.len t)
theorem Dvs.get {K : PySem.W.Frag} {H : Hp} : ∀ {vs : List V} {ds : List PyData} {i : Nat} {v : V}, Dvs K H vs ds → vs[i]? = some v → ∃ d, ds[i]? = some d ∧ Dv K H v d
  | _, _, i, v, .nil, e => by simp at e
  | _, _, 0, v, .cons h _, e => by
    simp at e
    subst e
    exact ⟨_, rfl, h⟩
  | _, _, i + 1, v, .cons _ t, e => by
    obtain ⟨d, h1, h2⟩ := Dvs.get (i := i) t (by simpa using e)
    exact ⟨d, by simpa using h1, h2⟩
theorem Dvs.snoc {K : PySem.W.Frag} {H : Hp} : ∀ {vs : List V} {ds : List PyData} {v : V} {d : PyData}, Dvs K H vs ds → Dv K H v d → Dvs K H (vs ++ [v]) (ds ++ [d])
  | _, _, _, _, .nil, h => .cons h .nil
  | _, _, _, _, .cons h t, h' => .cons h (Dvs.snoc t h')
theorem Dvs.mono {K : PySem.W.Frag} {H H' : Hp} (e : Same H H') : ∀ {vs : List V} {ds : List PyData}, Dvs K H vs ds → Dvs K H' vs ds
  | _, _, .nil => .nil
  | _, _, .cons h t => .cons (Dv.mono e h) (Dvs.mono e t)
theorem sqT_mono {K : PySem.W.Frag} {H H' : Hp} (e : Same H H') {a : Addr} {xs : List V} (h : SqT K H a xs) : SqT K H' a xs := by
  rcases h with (h | ⟨o, h⟩) | h
  · exact .inl (.inl (e _ _ h))
  · exact .inl (.inr ⟨o, e _ _ h⟩)
  · exact .inr h
theorem dc_it {J : It} {n : Nat} {Gd : Hp → Prop} {Y : Nat → Hp → V → Hp → Prop} (w : Walk J n Gd Y) {g : TG} {tt : TT} {tk tv : TE} {vs : List Nat} {σ : L2.St} {H1 : Hp} {D : Addr} {Qd : Hp → Prop} (Pv : Nat → Hp → Prop) (h0 : Pv 0 (upd H1 D (.dK []))) (hG : ∀ i H, i ≤ n → Pv i H → Gd H)
    (hs : ∀ i x H H', i < n → Pv i H → Y i H x H' → g x (wipe σ vs) H' fun σ2 H2 => wipe σ2 vs = wipe σ vs ∧ tt σ2 H2 fun b H3 =>
      if b = true then tk σ2 H3 fun y H4 => tv σ2 H4 fun z H5 => ∃ kvs k, y = kV k ∧ H5 D = some (.dK kvs) ∧ kvs.length < sizeLine ∧ Pv (i + 1) (upd H5 D (.dK (putK kvs k z))) else Pv (i + 1) H3) (hd : ∀ H, Pv n H → Qd H) :
    ∃ W : Nat → Nat → Hp → Prop, (∃ m, W 0 m (upd H1 D (.dK []))) ∧ ∀ i m H, W i m H →
      (J.stop i H ∧ Qd H) ∨ (J.go i H ∧ ∃ Nx : Hp → Prop, (∀ H', Nx H' → ∃ m', m' < m ∧ W (i + 1) m' H') ∧ ∀ x H', J.yld i H x H' → g x (wipe σ vs) H' fun σ2 H2 => wipe σ2 vs = wipe σ vs ∧ tt σ2 H2 fun b H3 =>
        if b = true then tk σ2 H3 fun y H4 => tv σ2 H4 fun z H5 => ∃ kvs k, y = kV k ∧ H5 D = some (.dK kvs) ∧ kvs.length < sizeLine ∧ Nx (upd H5 D (.dK (putK kvs k z))) else Nx H3) := by
  refine ⟨fun i m H => m = n - i ∧ i ≤ n ∧ Pv i H, ⟨n, by simp, Nat.zero_le _, h0⟩, ?_⟩
  rintro i m H ⟨rfl, hi, p⟩
  have q := hG i H hi p
  by_cases hlt : i < n
  · exact .inr ⟨w.goes i H hlt q, Pv (i + 1), fun H' p' => ⟨n - (i + 1), by omega, rfl, hlt, p'⟩, fun x H' y => hs i x H H' hlt p (w.yields i H x H' hlt q y)⟩
  · have e : i = n := by omega
    subst e
    exact .inl ⟨w.stops H q, hd H p⟩
/-- the state of a copying comprehension behind i items -/
structure CpAt (K : PySem.W.Frag) (H G : Hp) (D : Addr) (ds : List PyData) (i : Nat) (H' : Hp) : Prop where
  ex : ∃ (Gi : Hp) (ys : List V), Same G Gi ∧ NoFrz Gi ∧ Beside H G Gi ∧ Gi D = none ∧ Same Gi H' ∧ (∀ b o, b ≠ D → H b = some o → H' b = some o) ∧ H' D = some (.lst ys) ∧ Dvs K Gi ys (ds.take i)
theorem CpAt.start {K : PySem.W.Frag} {H G : Hp} {D : Addr} {ds : List PyData} (hG : Same G H) (hn : NoFrz G) (hD : H D = none) : CpAt K H G D ds 0 (upd H D (.lst [])) :=
  ⟨G, [], Same.refl G, hn, fun _ _ z => z, hG.free hD, hG.trans (same_new hD), fun b o hb e => by rw [upd_ne hb]; exact e, upd_same, .nil⟩
/-- one more item copied -/
theorem CpAt.step {K : PySem.W.Frag} {H G H' : Hp} {D : Addr} {ds : List PyData} {i : Nat} {d : PyData} {v : V} (hDn : H D = none) (c : CpAt K H G D ds i H') (hd : ds[i]? = some d) (hv : Dv K G v d) {n : Nat} (hc : Cp n d) (hz : ds.length ≤ 100) {Q : VK}
    (h : ∀ v' H'' ys, H'' D = some (.lst ys) → ys.length < sizeLine → CpAt K H G D ds (i + 1) (upd H'' D (.lst (ys ++ [v']))) → Q v' H'') : spCopied n K [v] H' Q E0 := by
  obtain ⟨Gi, ys, s1, nf, bs, gD, s2, kp, hDl, dv⟩ := c.ex
  refine ⟨v, d, Gi, rfl, hc, s2, nf, Dv.mono s1 hv, fun v' G' H'' e1 nf' be e2 e3 dv' => ?_⟩
  have gD' : G' D = none := be D (by rw [hDl]; exact fun z => nomatch z) gD
  have hl : ys.length ≤ 100 := by
    rw [Dvs.len dv, List.length_take]
    exact Nat.le_trans (Nat.min_le_right _ _) hz
  refine h v' H'' ys (e3 _ _ hDl) (Nat.lt_of_le_of_lt hl (by decide)) ⟨G', ys ++ [v'], s1.trans e1, nf', fun b hb z => be b ?_ (bs b hb z), gD', fun b o e => ?_, fun b o hb e => ?_, upd_same, ?_⟩
  · cases q : H b with
    | none => exact absurd q hb
    | some o =>
      have hbD : b ≠ D := fun z => by
        rw [z, hDn] at q
        cases q
      rw [kp b o hbD q]
      exact fun z => nomatch z
  · rw [upd_ne (ne_of_none e gD')]
    exact e2 _ _ e
  · rw [upd_ne hb]
    exact e3 _ _ (kp b o hb e)
  · rw [List.take_add_one, hd]
    exact Dvs.snoc (Dvs.mono e1 dv) dv'

theorem dks_a {K : PySem.W.Frag} {H : Hp} {kvs : List (Key × V)} (h : Dks K H kvs [(.str "a", .int 3)]) : kvs = kvA := by
  generalize hp : [(PyData.str "a", PyData.int 3)] = ps at h
  cases h with
  | nil => cases hp
  | @cons k v kvs d ps h1 h2 =>
    injection hp with e1 e2
    injection e1 with e3 e4
    subst e4
    subst e2
    cases h2
    cases h1
    cases k with
    | inl i => cases e3
    | inr x =>
      injection e3 with e5
      subst e5
      rfl
theorem CpAt.list {K : PySem.W.Frag} {H G H' : Hp} {D : Addr} {ds : List PyData} {Q : VK} (hD : H D = none) (c : CpAt K H G D ds ds.length H')
    (q : ∀ v' G' H', Same G G' → NoFrz G' → Beside H G G' → Same G' H' → Same H H' → Dv K G' v' (.list ds) → Q v' H') : Q (.ref D) H' := by
  obtain ⟨Gi, ys, e1, nf', bs, gD, e2, kp, hl, dv⟩ := c.ex
  rw [List.take_length] at dv
  have hb : ∀ b, H b ≠ none → b ≠ D := fun b z e => z (e ▸ hD)
  refine q (.ref D) (upd Gi D (.lst ys)) H' (e1.trans (same_new gD)) (noFrz_upd nf' fun _ _ z => nomatch z) (fun b z g => by rw [upd_ne (hb b z)]; exact bs b z g) (fun b o e => ?_) (fun b o e => kp b o (hb b (by rw [e]; exact fun z => nomatch z)) e) (.lst (SqL.of upd_same) (Dvs.mono (same_new gD) dv))
  by_cases z : b = D
  · rw [z, upd_same] at e
    rw [z, hl]
    exact e
  · rw [upd_ne z] at e
    exact e2 _ _ e
theorem CpAt.tuple {K : PySem.W.Frag} {H G H' : Hp} {D : Addr} {ds : List PyData} {Q : VK} (hD : H D = none) (c : CpAt K H G D ds ds.length H')
    (q : ∀ v' G' H', Same G G' → NoFrz G' → Beside H G G' → Same G' H' → Same H H' → Dv K G' v' (.tuple ds) → Q v' H') :
    tCB (fun xs H Q => ∃ p ys, xs = [.ref p] ∧ ((SqL K H p ys ∧ ∀ l, H l = none → Q (.ref l) (upd H l (.tup ys))) ∨ (SqT K H p ys ∧ Q (.ref p) H))) (fun _ H k => k [.ref D] H) [] H' Q := by
  obtain ⟨Gi, ys, e1, nf', bs, gD, e2, kp, hl, dv⟩ := c.ex
  rw [List.take_length] at dv
  have hb : ∀ b, H b ≠ none → b ≠ D := fun b z e => z (e ▸ hD)
  refine ⟨D, ys, rfl, .inl ⟨SqL.of hl, fun l hn => ?_⟩⟩
  have hl' : ∀ b, H b ≠ none → b ≠ l := fun b z e => by
    cases y : H b with
    | none => exact z y
    | some o =>
      have w := kp b o (hb b z) y
      rw [e, hn] at w
      cases w
  have gl : Gi l = none := e2.free hn
  refine q (.ref l) (upd Gi l (.tup ys)) _ (e1.trans (same_new gl)) (noFrz_upd nf' fun _ _ z => nomatch z) (fun b z g => by rw [upd_ne (hl' b z)]; exact bs b z g) (fun b o e => ?_) (fun b o e => ?_) (.tup (.inl (.inl upd_same)) (Dvs.mono (same_new gl) dv))
  · by_cases z : b = l
    · rw [z, upd_same] at e ⊢
      exact e
    · rw [upd_ne z] at e ⊢
      exact e2 _ _ e
  · have z : H b ≠ none := by rw [e]; exact fun z => nomatch z
    rw [upd_ne (hl' b z)]
    exact kp b o (hb b z) e
section
variable {P : Program} {w : World} {K : PySem.W.Frag} {mg : Str → Option Value} {base : Heap}
theorem scCopied : FnScope ["value", "part", "key"] ["value"] (defScope sCopied) := ⟨rfl, rfl, rfl, by decide +kernel, rfl, by decide +kernel, by decide +kernel⟩
theorem ok_copied {f : Addr} {fd : FuncData} (F : Fun K "copied" "copied" sCopied f fd) (T : B0 mg) (hm : mg "copied" = some (.ref f)) (b : Binds K fd ["value"] []) : ∀ n, FnOk P w K mg base CX0 (n + 1) f fd ["value"] (spCopied n K) := by
  intro n
  induction n with
  | zero =>
    refine F.ok scCopied (fun vs H Q E h => ?_) (fun cdv A outer s H vs Q E hr h => ?_)
    · obtain ⟨v, d, G, rfl, _⟩ := h
      rfl
    · obtain ⟨v, d, G, rfl, hc, s1, nf, hd, q⟩ := h
      have tst : ∀ c : String, c ∈ clsL → isT c d = true → c = "int" ∨ c = "bool" ∨ c = "str" := fun c hc' e => by
        simp only [clsL, List.mem_cons, List.not_mem_nil, or_false] at hc'
        rcases hc' with rfl | rfl | rfl | rfl | rfl | rfl <;> cases d <;> simp_all [isT, Cp]
      refine ⟨_, pss_cons (ps_if (pt_val (pe_callB (call_isD (c := "list")) (by rfl) T.isi (by decide +kernel) (pa_cons (pv 0) (pa_cons (pe_bltn (v := .ty "list") (by rfl) T.list (by decide +kernel) rfl) pa_nil)))) (pss_one ps_never) pss_nil)
        (pss_cons (ps_if (pt_val (pe_callB (call_isD (c := "tuple")) (by rfl) T.isi (by decide +kernel) (pa_cons (pv 0) (pa_cons (pe_bltn (v := .ty "tuple") (by rfl) T.tuple (by decide +kernel) rfl) pa_nil)))) (pss_one ps_never) pss_nil)
        (pss_cons (ps_if (pt_val (pe_callB (call_isD (c := "dict")) (by rfl) T.isi (by decide +kernel) (pa_cons (pv 0) (pa_cons (pe_bltn (v := .ty "dict") (by rfl) T.dict (by decide +kernel) rfl) pa_nil)))) (pss_one ps_never) pss_nil)
        (pss_one (ps_ret (pv 0))))), ?_⟩
      have no : ∀ c : String, c ∈ ["list", "tuple", "dict"] → isT c d = false := fun c hc' => by
        simp only [List.mem_cons, List.not_mem_nil, or_false] at hc'
        rcases hc' with rfl | rfl | rfl <;> cases d <;> simp_all [isT, Cp]
      refine ⟨v, rfl, v, d, rfl, Dv.mono s1 hd, _, rfl, ?_⟩
      rw [no "list" (by simp)]
      refine iteF ⟨v, rfl, v, d, rfl, Dv.mono s1 hd, _, rfl, ?_⟩
      rw [no "tuple" (by simp)]
      refine iteF ⟨v, rfl, v, d, rfl, Dv.mono s1 hd, _, rfl, ?_⟩
      rw [no "dict" (by simp)]
      exact iteF ⟨v, rfl, q v G H (Same.refl G) nf (fun _ _ z => z) s1 (Same.refl H) hd⟩
  | succ n ih =>
    refine F.ok scCopied (fun vs H Q E h => ?_) (fun cdv A outer s H vs Q E hr h => ?_)
    · obtain ⟨v, d, G, rfl, _⟩ := h
      rfl
    · obtain ⟨v, d, G, rfl, hc, s1, nf, hd, q⟩ := h
      have hu := hu_of hr
      refine ⟨_, pss_cons (ps_if (pt_val (pe_callB (call_isD (c := "list")) (by rfl) T.isi (by decide +kernel) (pa_cons (pv 0) (pa_cons (pe_bltn (v := .ty "list") (by rfl) T.list (by decide +kernel) rfl) pa_nil))))
          (pss_one (ps_ret (pe_lc (own := [("part", 1)]) (g := gName 1) (tt := tYes) (by rfl) scCopied.nd (pi_list (pv 0)) (blkOk_by (own := [("part", 1)]) (N := ["value", "part", "key"]) (sc := defScope sCopied) (by decide +kernel))
            (fun _ _ _ _ _ => pg_name (i := 1) scCopied.nd rfl (Or.inl rfl)) (fun _ _ _ _ _ => pts_nil) (fun _ _ _ _ _ => pe_call ih hr (by rfl) hm F.kp b .nil pass0 (pa_cons (pv 1) pa_nil))))) pss_nil)
        (pss_cons (ps_if (pt_val (pe_callB (call_isD (c := "tuple")) (by rfl) T.isi (by decide +kernel) (pa_cons (pv 0) (pa_cons (pe_bltn (v := .ty "tuple") (by rfl) T.tuple (by decide +kernel) rfl) pa_nil))))
          (pss_one (ps_ret (pe_callTy call_tuple_of (by rfl) T.tuple (by decide +kernel) (pa_cons (pe_lc (own := [("part", 1)]) (g := gName 1) (tt := tYes) (by rfl) scCopied.nd (pi_tup (pv 0)) (blkOk_by (own := [("part", 1)]) (N := ["value", "part", "key"]) (sc := defScope sCopied) (by decide +kernel))
            (fun _ _ _ _ _ => pg_name (i := 1) scCopied.nd rfl (Or.inl rfl)) (fun _ _ _ _ _ => pts_nil) (fun _ _ _ _ _ => pe_call ih hr (by rfl) hm F.kp b .nil pass0 (pa_cons (pv 1) pa_nil))) pa_nil)))) pss_nil)
        (pss_cons (ps_if (pt_val (pe_callB (call_isD (c := "dict")) (by rfl) T.isi (by decide +kernel) (pa_cons (pv 0) (pa_cons (pe_bltn (v := .ty "dict") (by rfl) T.dict (by decide +kernel) rfl) pa_nil))))
          (pss_one (ps_ret (pe_lock (pe_dc (own := [("key", 2)]) (g := gName 2) (tt := tYes) (by rfl) scCopied.nd (pi_keys (pv 0)) (blkOk_by (own := [("key", 2)]) (N := ["value", "part", "key"]) (sc := defScope sCopied) (by decide +kernel))
            (fun _ _ _ _ _ => pg_name (i := 2) scCopied.nd rfl (Or.inl rfl)) (fun _ _ _ _ _ => pts_nil) (fun _ _ _ _ _ => pv 2) (fun _ _ _ _ _ => pe_call ih hr (by rfl) hm F.kp b .nil pass0 (pa_cons (pe_dget hu (pv 0) (pv 2) (fun _ _ => rfl)) pa_nil)))))) pss_nil)
        (pss_one (ps_ret (pv 0))))), ?_⟩
      have hd' := Dv.mono s1 hd
      refine ⟨v, rfl, v, d, rfl, hd', _, rfl, ?_⟩
      cases d with
      | list ds =>
        refine iteT ?_
        obtain ⟨hz, hcs⟩ := hc
        cases hd with
        | @lst a xs _ hs ha =>
          refine ⟨_, rfl, a, rfl, ⟨xs, s1.seq hs⟩, fun D hD => lc_list (K := K) (a := a) (xs := xs) (CpAt K H G D ds) (CpAt.start s1 nf hD) (fun i H' _ c => ?_) (fun i x H' hi c => ⟨rfl, yes_go ?_⟩) (fun H' c => ?_)⟩
          · obtain ⟨Gi, ys, e1, _, _, _, e2, _⟩ := c.ex
            exact (e1.trans e2).seq hs
          · obtain ⟨d, hdi, hv⟩ := Dvs.get ha hi
            refine ⟨x, rfl, c.step hD hdi hv (hcs d (List.mem_of_getElem? hdi)) hz fun v' H'' ys e1 e2 c' => ⟨ys, e1, e2, c'⟩⟩
          · rw [Dvs.len ha] at c
            exact CpAt.list hD c q
      | tuple ds =>
        refine iteF ⟨v, rfl, v, _, rfl, hd', _, rfl, ?_⟩
        refine iteT ?_
        obtain ⟨hz, hcs⟩ := hc
        cases hd with
        | @tup a xs _ hs ha =>
          refine ⟨_, rfl, a, rfl, ⟨xs, sqT_mono s1 hs⟩, fun D hD => lc_tup (K := K) (a := a) (xs := xs) (CpAt K H G D ds) (CpAt.start s1 nf hD) (fun i H' _ c => ?_) (fun i x H' hi c => ⟨rfl, yes_go ?_⟩) (fun H' c => ?_)⟩
          · obtain ⟨Gi, ys, e1, _, _, _, e2, _⟩ := c.ex
            exact sqT_mono (e1.trans e2) hs
          · obtain ⟨d, hdi, hv⟩ := Dvs.get ha hi
            refine ⟨x, rfl, c.step hD hdi hv (hcs d (List.mem_of_getElem? hdi)) hz fun v' H'' ys e1 e2 c' => ⟨ys, e1, e2, c'⟩⟩
          · rw [Dvs.len ha] at c
            exact CpAt.tuple hD c q
      | dict ps =>
        refine iteF ⟨v, rfl, v, _, rfl, hd', _, rfl, ?_⟩
        refine iteF ⟨v, rfl, v, _, rfl, hd', _, rfl, ?_⟩
        refine iteT ?_
        obtain rfl : ps = [(.str "a", .int 3)] := hc
        cases hd with
        | @dic a kvs _ hs ha =>
          obtain rfl := dks_a ha
          have hH : H a = some (.dK kvA) := by
            rcases hs with z | ⟨o, z⟩
            · exact s1 _ _ z
            · exact absurd z (nf _ _ _)
          refine ⟨a, _, hH, True.intro, fun od => ⟨_, rfl, a, od, rfl, .inl ⟨_, upd_same, fun D hD => ?_⟩⟩⟩
          have key : ∀ H1, H1 D = some (.dK kvA) → (∀ b o, b ≠ D → b ≠ a → H b = some o → H1 b = some o) → H1 a = some (.frz od (.dK kvA)) → Q (.ref D) (upd H1 a (.dK kvA)) := fun H1 e1 e2 e3 => by
            have hDa : D ≠ a := fun z => by
              rw [z, upd_same] at hD
              cases hD
            have hb : ∀ b, H b ≠ none → b ≠ D := fun b z e => by
              rw [← e, upd_ne (e ▸ hDa)] at hD
              exact z hD
            have gD : G D = none := by
              cases y : G D with
              | none => rfl
              | some o => exact absurd rfl (hb D (by rw [s1 _ _ y]; exact fun z => nomatch z))
            have s3 : Same H (upd H1 a (.dK kvA)) := fun b o e => by
              by_cases z : b = a
              · rw [z, hH] at e
                rw [z, upd_same]
                exact e
              · rw [upd_ne z]
                exact e2 b o (hb b (by rw [e]; exact fun z => nomatch z)) z e
            refine q (.ref D) (upd G D (.dK kvA)) _ (same_new gD) (noFrz_upd nf fun _ _ z => nomatch z) (fun b z g => by rw [upd_ne (hb b z)]; exact g) (fun b o e => ?_) s3 (.dic (.inl upd_same) (.cons (.int 3) .nil))
            by_cases z : b = D
            · rw [z, upd_same] at e
              rw [z, upd_ne hDa, e1]
              exact e
            · rw [upd_ne z] at e
              exact s3 _ _ (s1 _ _ e)
          have hDa : D ≠ a := fun z => by
            rw [z, upd_same] at hD
            cases hD
          refine dc_it (walk_keys (d := a) (o := od) (kvs := kvA)) (fun i H1 => (∀ b o, b ≠ D → b ≠ a → H b = some o → H1 b = some o) ∧ H1 a = some (.frz od (.dK kvA)) ∧ H1 D = some (.dK (kvA.take i))) ?_ (fun i H1 _ c => c.2.1) ?_ ?_
          · exact ⟨fun b o h1 h2 e => by rw [upd_ne h1, upd_ne h2]; exact e, by rw [upd_ne (Ne.symm hDa), upd_same], upd_same⟩
          · rintro i x H1 H2 hi ⟨c1, c2, c3⟩ ⟨rfl, k, vv, hk, rfl⟩
            have i0 : i = 0 := by
              have : i < 1 := hi
              omega
            subst i0
            cases hk
            refine ⟨rfl, yes_go ?_⟩
            refine ⟨_, rfl, .ref a, rfl, _, rfl, a, _, rfl, .inl ⟨kvA, Sum.inr ka, .inr ⟨od, c2⟩, rfl, rfl⟩, ?_⟩
            refine ⟨.int 3, .int 3, fun _ => none, rfl, by cases n <;> exact True.intro, (fun _ _ z => nomatch z), (fun _ _ _ z => nomatch z), .int 3, fun v' G' H' e1 e2 e3 e4 e5 e6 => ?_⟩
            cases e6
            refine ⟨[], Sum.inr ka, rfl, e5 _ _ c3, by decide, fun b o h1 h2 e => ?_, ?_, ?_⟩
            · rw [upd_ne h1]
              exact e5 _ _ (c1 b o h1 h2 e)
            · rw [upd_ne (Ne.symm hDa)]
              exact e5 _ _ c2
            · rw [upd_same]
              rfl
          · rintro H1 ⟨c1, c2, c3⟩
            exact ⟨c2, key H1 c3 c1 c2⟩
      | none => exact iteF ⟨v, rfl, v, _, rfl, hd', _, rfl, iteF ⟨v, rfl, v, _, rfl, hd', _, rfl, iteF ⟨v, rfl, q v G H (Same.refl G) nf (fun _ _ z => z) s1 (Same.refl H) hd⟩⟩⟩
      | bool _ => exact iteF ⟨v, rfl, v, _, rfl, hd', _, rfl, iteF ⟨v, rfl, v, _, rfl, hd', _, rfl, iteF ⟨v, rfl, q v G H (Same.refl G) nf (fun _ _ z => z) s1 (Same.refl H) hd⟩⟩⟩
      | int _ => exact iteF ⟨v, rfl, v, _, rfl, hd', _, rfl, iteF ⟨v, rfl, v, _, rfl, hd', _, rfl, iteF ⟨v, rfl, q v G H (Same.refl G) nf (fun _ _ z => z) s1 (Same.refl H) hd⟩⟩⟩
      | str _ => exact iteF ⟨v, rfl, v, _, rfl, hd', _, rfl, iteF ⟨v, rfl, v, _, rfl, hd', _, rfl, iteF ⟨v, rfl, q v G H (Same.refl G) nf (fun _ _ z => z) s1 (Same.refl H) hd⟩⟩⟩
end
end K34
end

section
set_option Elab.async false
set_option linter.all false
set_option maxRecDepth 100000
set_option maxHeartbeats 4000000
/-! the errors' __init__ -/
namespace K34
open PySem L2 KZ
/-- what the written part says of an error class: its name, its __init__, its fields -/
structure ErrC (K : PySem.W.Frag) (mg : Str → Option Value) (nm : Str) (C fI : Addr) (fs : List Str) : Prop where
  ox : OexC K C
  ex : ExcT K C
  ini : PySem.W.findIn K (.ref C) "__init__" = some (some (.ref fI))
  ti : PySem.W.typeIn K (.ref fI) = some (.type "function")
  no : ∀ f ∈ fs, PySem.W.findIn K (.ref C) f = some none
  gl : mg nm = some (.ref C)
/-- self.f = copied(x) -/
def spE1 (K : PySem.W.Frag) (C : Addr) (f : Str) : Sp := fun vs H Q _ => ∃ a v d G, vs = [.ref a, v] ∧ Cp 3 d ∧ Same G H ∧ NoFrz G ∧ G a = none ∧ Dv K G v d ∧ H a = some (exo a C none) ∧
  ∀ v' G' dx H', Same G G' → NoFrz G' → Beside H G G' → G' a = none → G' dx = none → H dx = none → dx ≠ a → Same G' H' → (∀ b o, b ≠ a → H b = some o → H' b = some o) → H' a = some (exo a C (some dx)) → H' dx = some (exd dx [(f, v')]) → Dv K G' v' d → Q .non H'
/-- self.f = copied(x); self.g = copied(y) -/
def spE2 (K : PySem.W.Frag) (C : Addr) (f g : Str) : Sp := fun vs H Q _ => ∃ a v u d e G, vs = [.ref a, v, u] ∧ Cp 3 d ∧ Cp 3 e ∧ Same G H ∧ NoFrz G ∧ G a = none ∧ Dv K G v d ∧ Dv K G u e ∧ H a = some (exo a C none) ∧
  ∀ v' u' G' dx H', Same G G' → NoFrz G' → Beside H G G' → G' a = none → G' dx = none → H dx = none → dx ≠ a → Same G' H' → (∀ b o, b ≠ a → H b = some o → H' b = some o) → H' a = some (exo a C (some dx)) → H' dx = some (exd dx [(g, u'), (f, v')]) → Dv K G' v' d → Dv K G' u' e → Q .non H'
section
variable {P : Program} {w : World} {K : PySem.W.Frag} {mg : Str → Option Value} {base : Heap} {fC : Addr} {dC : FuncData}
theorem ok_init1 {C f : Addr} {fd : FuncData} {q x fld : Str} {st : Stmt} {p1 p2 p3 p4 p5 p6 : Pos} (hb : defBody st = [.Assign [.Attribute (.Name "self" p1) fld p2] (.Call (.Name "copied" p3) [.Name x p4] [] p5) p6])
    (S : FnScope ["self", x] ["self", x] (defScope st)) (hs : (defScope st).names.lookup ("self" : Str) = some .local) (hx : (defScope st).names.lookup x = some .local) (hc : (defScope st).names.lookup ("copied" : Str) = some .globalImplicit)
    (hd : (x == ("__debug__" : Str)) = false) (hcd : (x == ("__classdict__" : Str)) = false) (F : Fun K "__init__" q st f fd) (ox : OexC K C) (no : PySem.W.findIn K (.ref C) fld = some none)
    (T : B0 mg) (gC : mg "copied" = some (.ref fC)) (FC : Fun K "copied" "copied" sCopied fC dC) (bC : Binds K dC ["value"] []) : FnOk P w K mg base CX0 5 f fd ["self", x] (spE1 K C fld) := by
  have GC : FnOk P w K mg base CX0 4 fC dC ["value"] (spCopied 3 K) := ok_copied FC T gC bC 3
  refine F.ok S (fun vs H Q E h => ?_) (fun cdv A outer s H vs Q E hr h => ?_)
  · obtain ⟨a, v, d, G, rfl, _⟩ := h
    rfl
  · obtain ⟨a, v, d, G, rfl, hcp, s1, nf, ga, hv, ha, q⟩ := h
    rw [hb]
    refine ⟨_, pss_one (ps_ost (pe_var (i := 0) rfl (.inl hs)) (pe_call GC hr hc gC FC.kp bC .nil pass0 (pa_cons (pe_var (i := 1) rfl (.inl hx) hd hcd) pa_nil))), ?_⟩
    refine ⟨v, rfl, v, d, G, rfl, hcp, s1, nf, hv, fun v' G' H' e1 e2 e3 e4 e5 e6 => ?_⟩
    have ga' : G' a = none := e3 a (by rw [ha]; exact fun z => nomatch z) ga
    refine ⟨_, rfl, a, C, rfl, ox, no, .inl ⟨e5 _ _ ha, fun dx hdx ne => ?_⟩⟩
    have gd : G' dx = none := e4.free hdx
    refine q v' G' dx _ e1 e2 e3 ga' gd (e5.free hdx) ne (fun b o e => ?_) (fun b o hb e => ?_) upd_same (by rw [upd_ne ne, upd_same]) e6
    · rw [upd_ne (ne_of_none e ga'), upd_ne (ne_of_none e gd)]
      exact e4 _ _ e
    · rw [upd_ne hb, upd_ne (ne_of_none (e5 _ _ e) hdx)]
      exact e5 _ _ e
theorem ok_init2 {C f : Addr} {fd : FuncData} {q x y fld gld : Str} {st : Stmt} {p1 p2 p3 p4 p5 p6 q1 q2 q3 q4 q5 q6 : Pos}
    (hb : defBody st = [.Assign [.Attribute (.Name "self" p1) fld p2] (.Call (.Name "copied" p3) [.Name x p4] [] p5) p6, .Assign [.Attribute (.Name "self" q1) gld q2] (.Call (.Name "copied" q3) [.Name y q4] [] q5) q6])
    (S : FnScope ["self", x, y] ["self", x, y] (defScope st)) (hs : (defScope st).names.lookup ("self" : Str) = some .local) (hx : (defScope st).names.lookup x = some .local) (hy : (defScope st).names.lookup y = some .local) (hc : (defScope st).names.lookup ("copied" : Str) = some .globalImplicit)
    (hd : (x == ("__debug__" : Str)) = false) (hcd : (x == ("__classdict__" : Str)) = false) (hd2 : (y == ("__debug__" : Str)) = false) (hcd2 : (y == ("__classdict__" : Str)) = false) (F : Fun K "__init__" q st f fd) (ox : OexC K C)
    (no : PySem.W.findIn K (.ref C) fld = some none) (no2 : PySem.W.findIn K (.ref C) gld = some none)
    (T : B0 mg) (gC : mg "copied" = some (.ref fC)) (FC : Fun K "copied" "copied" sCopied fC dC) (bC : Binds K dC ["value"] []) : FnOk P w K mg base CX0 5 f fd ["self", x, y] (spE2 K C fld gld) := by
  have GC : FnOk P w K mg base CX0 4 fC dC ["value"] (spCopied 3 K) := ok_copied FC T gC bC 3
  refine F.ok S (fun vs H Q E h => ?_) (fun cdv A outer s H vs Q E hr h => ?_)
  · obtain ⟨a, v, u, d, e, G, rfl, _⟩ := h
    rfl
  · obtain ⟨a, v, u, d, e, G, rfl, hcp, hcp2, s1, nf, ga, hv, hu, ha, q⟩ := h
    rw [hb]
    refine ⟨_, pss_cons (ps_ost (pe_var (i := 0) rfl (.inl hs)) (pe_call GC hr hc gC FC.kp bC .nil pass0 (pa_cons (pe_var (i := 1) rfl (.inl hx) hd hcd) pa_nil)))
      (pss_one (ps_ost (pe_var (i := 0) rfl (.inl hs)) (pe_call GC hr hc gC FC.kp bC .nil pass0 (pa_cons (pe_var (i := 2) rfl (.inl hy) hd2 hcd2) pa_nil)))), ?_⟩
    refine ⟨v, rfl, v, d, G, rfl, hcp, s1, nf, hv, fun v' G' H' e1 e2 e3 e4 e5 e6 => ?_⟩
    have ga' : G' a = none := e3 a (by rw [ha]; exact fun z => nomatch z) ga
    refine ⟨_, rfl, a, C, rfl, ox, no, .inl ⟨e5 _ _ ha, fun dx hdx ne => ?_⟩⟩
    have gd : G' dx = none := e4.free hdx
    have s2 : Same G' (upd (upd H' dx (exd dx [(fld, v')])) a (exo a C (some dx))) := fun b o z => by
      rw [upd_ne (ne_of_none z ga'), upd_ne (ne_of_none z gd)]
      exact e4 _ _ z
    refine ⟨u, rfl, u, e, G', rfl, hcp2, s2, e2, Dv.mono e1 hu, fun u' G2 H2 f1 f2 f3 f4 f5 f6 => ?_⟩
    have nn : ∀ b o, H b = some o → (upd (upd H' dx (exd dx [(fld, v')])) a (exo a C (some dx))) b ≠ none := fun b o z => by
      by_cases hba : b = a
      · rw [hba, upd_same]
        exact fun z => nomatch z
      · rw [upd_ne hba, upd_ne (ne_of_none (e5 _ _ z) hdx), e5 _ _ z]
        exact fun z => nomatch z
    have ga2 : G2 a = none := f3 a (by rw [upd_same]; exact fun z => nomatch z) ga'
    have gd2 : G2 dx = none := f3 dx (by rw [upd_ne ne, upd_same]; exact fun z => nomatch z) gd
    have ha2 : H2 a = some (exo a C (some dx)) := f5 _ _ upd_same
    have hd2 : H2 dx = some (exd dx [(fld, v')]) := f5 _ _ (by rw [upd_ne ne, upd_same])
    refine ⟨_, rfl, a, C, rfl, ox, no2, .inr ⟨dx, _, ha2, hd2, (show 1 ≤ 900 by decide), ?_⟩⟩
    refine q v' u' G2 dx _ (e1.trans f1) f2 (fun b z g => ?_) ga2 gd2 (e5.free hdx) ne (fun b o z => ?_) (fun b o hb z => ?_) (by rw [upd_ne (Ne.symm ne)]; exact ha2) upd_same (Dv.mono f1 e6) f6
    · cases y : H b with
      | none => exact absurd y z
      | some o => exact f3 b (nn b o y) (e3 b z g)
    · rw [upd_ne (ne_of_none z gd2)]
      exact f4 _ _ z
    · have hbd : b ≠ dx := ne_of_none (e5 _ _ z) hdx
      rw [upd_ne hbd]
      exact f5 _ _ (by rw [upd_ne hb, upd_ne hbd]; exact e5 _ _ z)
end
end K34
end

section
set_option Elab.async false
set_option linter.all false
set_option maxRecDepth 100000
set_option maxHeartbeats 4000000
/-! errors made of data, as one rule each -/
namespace K34
open PySem L2 KZ
def tUp (ta : TA) : TA := fun σ H Q => ∃ R : List V → Hp → Prop, ta σ H R ∧ ∀ vs H1, R vs H1 → Q vs H1
theorem pa_up {X : Cx} {es : List Expr} {ta : TA} (h : PA X es ta) : PA X es (tUp ta) :=
  ⟨fun pos pins s σ H Q I ⟨R, q, m⟩ => wpAny_mono (h.run pos pins s σ H R I q) (fun us s1 ⟨vs, H1, I1, r, z⟩ => ⟨vs, H1, I1, r, m _ _ z⟩) fun _ _ z => z⟩
theorem pk_up {X : Cx} {es : List Keyword} {ta : TA} (h : PK X es ta) : PK X es (tUp ta) :=
  ⟨fun pos pins s σ H Q I ⟨R, q, m⟩ => wpAny_mono (h.run pos pins s σ H R I q) (fun us s1 ⟨vs, H1, I1, r, z⟩ => ⟨vs, H1, I1, r, m _ _ z⟩) fun _ _ z => z⟩
theorem pe_conv {X : Cx} {e : Expr} {t u : TE} (h : PE X e t) (c : ∀ σ H Q, u σ H Q → t σ H Q) : PE X e u := ⟨fun pins s σ H Q I z => h.run pins s σ H Q I (c _ _ _ z)⟩
/-- at a: an error of the class C, its fields hold the data -/
def EAt (K : PySem.W.Frag) (H : Hp) (a C : Addr) (fds : List (Str × PyData)) : Prop :=
  ∃ dd fs, H a = some (EXO C a (some dd)) ∧ XD H dd fs ∧ ∀ p ∈ fds, ∃ v, fs.lookup p.1 = some v ∧ Dv K H v p.2
theorem XD.mono {H H' : Hp} {dd : Addr} {fs : List (Str × V)} (s : Same H H') (h : XD H dd fs) : XD H' dd fs := h.imp (s _ _) (s _ _)
theorem EAt.mono {K : PySem.W.Frag} {H H' : Hp} {a C : Addr} {fds : List (Str × PyData)} (s : Same H H') (h : EAt K H a C fds) : EAt K H' a C fds := by
  obtain ⟨dd, fs, e1, e2, e3⟩ := h
  exact ⟨dd, fs, s _ _ e1, XD.mono s e2, fun p hp => let ⟨v, l, d⟩ := e3 p hp; ⟨v, l, Dv.mono s d⟩⟩
/-- at a: an error of the class C -/
def IsErr (H : Hp) (a C : Addr) : Prop := ∃ d, H a = some (EXO C a d) ∧ ∀ dd, d = some dd → ∃ fs, XD H dd fs
theorem IsErr.mono {H H' : Hp} {a C : Addr} (s : Same H H') (h : IsErr H a C) : IsErr H' a C := by
  obtain ⟨d, e1, e2⟩ := h
  exact ⟨d, s _ _ e1, fun dd e => let ⟨fs, z⟩ := e2 dd e; ⟨fs, XD.mono s z⟩⟩
theorem EAt.is {K : PySem.W.Frag} {H : Hp} {a C : Addr} {fds : List (Str × PyData)} (h : EAt K H a C fds) : IsErr H a C := by
  obtain ⟨dd, fs, e1, e2, _⟩ := h
  exact ⟨some dd, e1, fun _ z => by cases z; exact ⟨fs, e2⟩⟩
theorem ef_go {K : PySem.W.Frag} {H : Hp} {a C : Addr} {fds : List (Str × PyData)} {n : Str} {d : PyData} {Q : V → Prop} (T : ExcT K C) (no : PySem.W.findIn K (.ref C) n = some none) (h : EAt K H a C fds) (hm : (n, d) ∈ fds) (q : ∀ v, Dv K H v d → Q v) :
    ∃ (a' C' dd : Addr) (fs : List (Str × V)) (v : V), V.ref a = .ref a' ∧ ExcT K C' ∧ PySem.W.findIn K (.ref C') n = some none ∧ H a' = some (EXO C' a' (some dd)) ∧ XD H dd fs ∧ fs.lookup n = some v ∧ Q v := by
  obtain ⟨dd, fs, e1, e2, e3⟩ := h
  obtain ⟨v, l, z⟩ := e3 _ hm
  exact ⟨a, C, dd, fs, v, rfl, T, no, e1, e2, l, q v z⟩
structure Mk1 (P : Program) (w : World) (K : PySem.W.Frag) (mg : Str → Option Value) (base : Heap) (nm : Str) (C : Addr) (x fld : Str) : Prop where
  has : ∃ fI dI, ErrC K mg nm C fI [fld] ∧ FnOk P w K mg base CX0 5 fI dI ["self", x] (spE1 K C fld) ∧ Binds K dI ["self", x] [] ∧ KBinds K dI ["self", x] [x] (fun us ws => us ++ ws.take 1) fun vs zs => vs ++ zs.take 1
structure Mk2 (P : Program) (w : World) (K : PySem.W.Frag) (mg : Str → Option Value) (base : Heap) (nm : Str) (C : Addr) (x y fld gld : Str) : Prop where
  has : ∃ fI dI, ErrC K mg nm C fI [fld, gld] ∧ FnOk P w K mg base CX0 5 fI dI ["self", x, y] (spE2 K C fld gld) ∧ Binds K dI ["self", x, y] [] ∧ KBinds K dI ["self", x, y] [y, x] (fun us ws => us ++ (ws.take 2).reverse) fun vs zs => vs ++ (zs.take 2).reverse
theorem Mk1.facts {P : Program} {w : World} {K : PySem.W.Frag} {mg : Str → Option Value} {base : Heap} {nm x fld : Str} {C : Addr} (M : Mk1 P w K mg base nm C x fld) : ExcT K C ∧ PySem.W.findIn K (.ref C) fld = some none :=
  let ⟨_, _, E, _⟩ := M.has
  ⟨E.ex, E.no _ List.mem_cons_self⟩
theorem Mk2.facts {P : Program} {w : World} {K : PySem.W.Frag} {mg : Str → Option Value} {base : Heap} {nm x y fld gld : Str} {C : Addr} (M : Mk2 P w K mg base nm C x y fld gld) : ExcT K C ∧ PySem.W.findIn K (.ref C) fld = some none ∧ PySem.W.findIn K (.ref C) gld = some none :=
  let ⟨_, _, E, _⟩ := M.has
  ⟨E.ex, E.no _ List.mem_cons_self, E.no _ (List.mem_cons_of_mem _ List.mem_cons_self)⟩
section
variable {K : PySem.W.Frag}
theorem e1_go {C a : Addr} {fld : Str} {v : V} {d : PyData} {G H : Hp} {Q : VK} (cp : Cp 3 d) (s : Same G H) (nf : NoFrz G) (hv : Dv K G v d) (ha : H a = none) (k : ∀ H', Same H H' → EAt K H' a C [(fld, d)] → Q (.ref a) H') :
    spE1 K C fld [.ref a, v] (upd H a (exo a C none)) (fun v H2 => v = .non ∧ ∃ d, H2 a = some (exo a C (some d)) ∧ Q (.ref a) (upd H2 a (EXO C a (some d)))) (fun _ _ _ => False) := by
  refine ⟨a, v, d, G, rfl, cp, s.trans (same_new ha), nf, s.free ha, hv, upd_same, fun v' G' dx H' s1 nf' bs ga gd hdx ne s' kp ea ed dv' => ⟨rfl, dx, ea, k _ (fun b o e => ?_) ⟨dx, [(fld, v')], upd_same, .inl (by rw [upd_ne ne]; exact ed), fun p hp => ?_⟩⟩⟩
  · have hb : b ≠ a := ne_of_none e ha
    rw [upd_ne hb]
    exact kp _ _ hb (by rw [upd_ne hb]; exact e)
  · rw [List.mem_singleton] at hp
    subst hp
    refine ⟨v', by simp, Dv.mono (fun b o e => ?_) dv'⟩
    rw [upd_ne (ne_of_none e ga)]
    exact s' _ _ e
theorem e2_go {C a : Addr} {fld gld : Str} {v u : V} {d e : PyData} {G H : Hp} {Q : VK} (hfg : gld ≠ fld) (cp : Cp 3 d) (cp2 : Cp 3 e) (s : Same G H) (nf : NoFrz G) (hv : Dv K G v d) (hu : Dv K G u e) (ha : H a = none) (k : ∀ H', Same H H' → EAt K H' a C [(fld, d), (gld, e)] → Q (.ref a) H') :
    spE2 K C fld gld [.ref a, v, u] (upd H a (exo a C none)) (fun v H2 => v = .non ∧ ∃ d, H2 a = some (exo a C (some d)) ∧ Q (.ref a) (upd H2 a (EXO C a (some d)))) (fun _ _ _ => False) := by
  refine ⟨a, v, u, d, e, G, rfl, cp, cp2, s.trans (same_new ha), nf, s.free ha, hv, hu, upd_same, fun v' u' G' dx H' s1 nf' bs ga gd hdx ne s' kp ea ed dv' du' => ⟨rfl, dx, ea, k _ (fun b o e => ?_) ⟨dx, [(gld, u'), (fld, v')], upd_same, .inl (by rw [upd_ne ne]; exact ed), fun p hp => ?_⟩⟩⟩
  · have hb : b ≠ a := ne_of_none e ha
    rw [upd_ne hb]
    exact kp _ _ hb (by rw [upd_ne hb]; exact e)
  · have m : Same G' (upd H' a (EXO C a (some dx))) := fun b o e => by
      rw [upd_ne (ne_of_none e ga)]
      exact s' _ _ e
    rcases List.mem_cons.mp hp with z | z
    · subst z
      refine ⟨v', ?_, Dv.mono m dv'⟩
      rw [List.lookup_cons]
      rw [show (fld == gld) = false from by simpa using fun z => hfg z.symm]
      simp
    · rw [List.mem_singleton] at z
      subst z
      exact ⟨u', by simp, Dv.mono m du'⟩
end
def tMk1 (K : PySem.W.Frag) (C : Addr) (fld : Str) (ta : TA) : TE := fun σ H Q => ta σ H fun vs H1 => ∃ v d G, vs = [v] ∧ Cp 3 d ∧ Same G H1 ∧ NoFrz G ∧ Dv K G v d ∧ ∀ a H', H1 a = none → Same H1 H' → EAt K H' a C [(fld, d)] → Q (.ref a) H'
def tMk2 (K : PySem.W.Frag) (C : Addr) (fld gld : Str) (ta : TA) : TE := fun σ H Q => ta σ H fun vs H1 => ∃ v u d e G, vs = [v, u] ∧ Cp 3 d ∧ Cp 3 e ∧ Same G H1 ∧ NoFrz G ∧ Dv K G v d ∧ Dv K G u e ∧ ∀ a H', H1 a = none → Same H1 H' → EAt K H' a C [(fld, d), (gld, e)] → Q (.ref a) H'
/-- the keywords the other way round -/
def tMkK2 (K : PySem.W.Frag) (C : Addr) (fld gld : Str) (ta : TA) : TE := fun σ H Q => ta σ H fun vs H1 => ∃ v u d e G, vs = [u, v] ∧ Cp 3 d ∧ Cp 3 e ∧ Same G H1 ∧ NoFrz G ∧ Dv K G v d ∧ Dv K G u e ∧ ∀ a H', H1 a = none → Same H1 H' → EAt K H' a C [(fld, d), (gld, e)] → Q (.ref a) H'
section
variable {X : Cx} {C : Addr} {nm x y fld gld : Str} {e e2 : Expr} {es : List Expr} {kws : List Keyword} {ta : TA} {p pos : Pos}
theorem pe_efK {te : TE} {n : Str} (K : PySem.W.Frag) (he : PE X e te) (hK : X.K = K := by rfl) (hb : attributeBase e n X.env (eval e X.env) = eval e X.env := by rfl) : PE X (.Attribute e n pos) (tEf K n te) := by
  subst hK
  exact pe_ef he hb
theorem pe_mk1 (M : Mk1 X.prog X.w X.K X.mg X.base nm C x fld) (hr : Room 6 X.A) (hg : Gl X nm) (ha : PA X [e] ta) (hdb : (nm == ("__debug__" : Str)) = false := by decide) (he : starEach [e] X.env = (false, eval e X.env) :: starEach [] X.env := by rfl) :
    PE X (.Call (.Name nm p) [e] [] pos) (tMk1 X.K C fld ta) := by
  obtain ⟨fI, dI, E, F, b, _⟩ := M.has
  refine pe_conv (pe_oex E.ox E.ini E.ti F hr b .nil pass0 hg E.gl (pa_up ha) hdb he) fun σ H Q h => ⟨_, h, ?_⟩
  rintro vs H1 ⟨v, d, G, rfl, cp, s, nf, hv, k⟩
  exact ⟨(show 1 ≤ 1000 by decide), fun a ha => e1_go cp s nf hv ha (k a · ha)⟩
theorem pe_mkK1 (M : Mk1 X.prog X.w X.K X.mg X.base nm C x fld) (hr : Room 6 X.A) (hg : Gl X nm) (hkw : PK X kws ta) (hall : (backToKw pos (keywordEach kws X.env)).all (·.1.isSome) = true := by rfl) (hks : (backToKw pos (keywordEach kws X.env)).filterMap (·.1) = [x] := by rfl)
    (hdb : (nm == ("__debug__" : Str)) = false := by decide) (hpl : ((backTo pos (starEach [] X.env)).any (·.1) || (backToKw pos (keywordEach kws X.env)).any (·.1.isNone)) = false := by rfl) : PE X (.Call (.Name nm p) [] kws pos) (tMk1 X.K C fld ta) := by
  obtain ⟨fI, dI, E, F, _, b⟩ := M.has
  refine pe_conv (pe_oexK0 E.ox E.ini E.ti F hr b pass0 hg E.gl (pk_up hkw) hall hks hdb hpl) fun σ H Q h => ⟨_, h, ?_⟩
  rintro vs H1 ⟨v, d, G, rfl, cp, s, nf, hv, k⟩
  exact fun a ha => e1_go cp s nf hv ha (k a · ha)
theorem pe_mk2 (hfg : gld ≠ fld) (M : Mk2 X.prog X.w X.K X.mg X.base nm C x y fld gld) (hr : Room 6 X.A) (hg : Gl X nm) (ha : PA X [e, e2] ta) (hdb : (nm == ("__debug__" : Str)) = false := by decide) (he : starEach [e, e2] X.env = (false, eval e X.env) :: starEach [e2] X.env := by rfl) (hpl : (backTo pos (starEach [e2] X.env)).any (·.1) = false := by rfl) :
    PE X (.Call (.Name nm p) [e, e2] [] pos) (tMk2 X.K C fld gld ta) := by
  obtain ⟨fI, dI, E, F, b, _⟩ := M.has
  refine pe_conv (pe_oex E.ox E.ini E.ti F hr b .nil pass0 hg E.gl (pa_up ha) hdb he hpl) fun σ H Q h => ⟨_, h, ?_⟩
  rintro vs H1 ⟨v, u, d, e, G, rfl, cp, cp2, s, nf, hv, hu, k⟩
  exact ⟨(show 2 ≤ 1000 by decide), fun a ha => e2_go hfg cp cp2 s nf hv hu ha (k a · ha)⟩
theorem pe_mkK2 (hfg : gld ≠ fld) (M : Mk2 X.prog X.w X.K X.mg X.base nm C x y fld gld) (hr : Room 6 X.A) (hg : Gl X nm) (hkw : PK X kws ta) (hall : (backToKw pos (keywordEach kws X.env)).all (·.1.isSome) = true := by rfl) (hks : (backToKw pos (keywordEach kws X.env)).filterMap (·.1) = [y, x] := by rfl)
    (hdb : (nm == ("__debug__" : Str)) = false := by decide) (hpl : ((backTo pos (starEach [] X.env)).any (·.1) || (backToKw pos (keywordEach kws X.env)).any (·.1.isNone)) = false := by rfl) : PE X (.Call (.Name nm p) [] kws pos) (tMkK2 X.K C fld gld ta) := by
  obtain ⟨fI, dI, E, F, _, b⟩ := M.has
  refine pe_conv (pe_oexK0 E.ox E.ini E.ti F hr b pass0 hg E.gl (pk_up hkw) hall hks hdb hpl) fun σ H Q h => ⟨_, h, ?_⟩
  rintro vs H1 ⟨v, u, d, e, G, rfl, cp, cp2, s, nf, hv, hu, k⟩
  exact fun a ha => e2_go hfg cp cp2 s nf hv hu ha (k a · ha)
end
end K34
end

section
set_option Elab.async false
set_option linter.all false
set_option maxRecDepth 100000
set_option maxHeartbeats 4000000
/-! keywords to parameters -/
namespace K34
open PySem PySem.Spec PyProof.Rows L2 KZ
theorem vals_take1 {vs : List V} {us : List Value} (h : Vals vs us) : Vals (vs.take 1) (us.take 1) := by
  cases h with
  | nil => exact .nil
  | cons a b => exact .cons a .nil
theorem vals_rev2 {vs : List V} {us : List Value} (h : Vals vs us) : Vals (vs.take 2).reverse (us.take 2).reverse := by
  cases h with
  | nil => exact .nil
  | cons a h =>
    cases h with
    | nil => exact .cons a .nil
    | cons b h => exact .cons b (.cons a .nil)
theorem vals_rev3 {vs : List V} {us : List Value} (h : Vals vs us) : Vals (vs.take 3).reverse (us.take 3).reverse := by
  cases h with
  | nil => exact .nil
  | cons a h =>
    cases h with
    | nil => exact .cons a .nil
    | cons b h =>
      cases h with
      | nil => exact .cons b (.cons a .nil)
      | cons c h => exact .cons c (.cons b (.cons a .nil))
section
variable {K : PySem.W.Frag} {x qual p q r : Str} {st : Stmt} {f : Addr} {fd : FuncData}
abbrev FN (x qual : Str) (st : Stmt) (kV doc pm : Value) (an : Option Addr) (cdv ct : Value) : FuncData := PySem.W.fnOf x qual (defArgs st) (defBody st) (defScope st) .none kV doc pm an cdv ct
theorem kb_one (F : Fun K x qual st f fd) (h0 : ∀ (kV doc pm : Value) (an : Option Addr) (cdv ct v : Value), bindArgs (FN x qual st kV doc pm an cdv ct) ⟨[], [(p, v)]⟩ = pure [(p, v)])
    (h1 : ∀ (kV doc pm : Value) (an : Option Addr) (cdv ct v : Value), bindArgs (FN x qual st kV doc pm an cdv ct) ⟨[v], []⟩ = pure [(p, v)]) : KBinds K fd [p] [p] (fun us ws => us ++ ws.take 1) fun vs zs => vs ++ zs.take 1 := by
  obtain ⟨oc, od, kV, doc, pm, an, cdv, ct, osl, rfl, _⟩ := F.ex
  refine ⟨fun s us ws _ hl => ?_, fun a b => a.append (vals_take1 b)⟩
  match us, ws, hl with
  | [], v :: _, _ => exact .of_eq (h0 kV doc pm an cdv ct v)
  | [v], [], _ => exact .of_eq (h1 kV doc pm an cdv ct v)
theorem kb_self (F : Fun K x qual st f fd) (h0 : ∀ (kV doc pm : Value) (an : Option Addr) (cdv ct s v : Value), bindArgs (FN x qual st kV doc pm an cdv ct) ⟨[s], [(q, v)]⟩ = pure [(p, s), (q, v)])
    (h1 : ∀ (kV doc pm : Value) (an : Option Addr) (cdv ct s v : Value), bindArgs (FN x qual st kV doc pm an cdv ct) ⟨[s, v], []⟩ = pure [(p, s), (q, v)]) : KBinds K fd [p, q] [q] (fun us ws => us ++ ws.take 1) fun vs zs => vs ++ zs.take 1 := by
  obtain ⟨oc, od, kV, doc, pm, an, cdv, ct, osl, rfl, _⟩ := F.ex
  refine ⟨fun s us ws _ hl => ?_, fun a b => a.append (vals_take1 b)⟩
  match us, ws, hl with
  | [a], v :: _, _ => exact .of_eq (h0 kV doc pm an cdv ct a v)
  | [a, v], [], _ => exact .of_eq (h1 kV doc pm an cdv ct a v)
  | [], ws, hl => exact absurd hl (by simp only [List.length_append, List.length_take, List.length_reverse, List.length_cons, List.length_nil]; omega)
  | [a], [], hl => exact absurd hl (by simp only [List.length_append, List.length_take, List.length_reverse, List.length_cons, List.length_nil]; omega)
  | [a, v], _ :: _, hl => exact absurd hl (by simp only [List.length_append, List.length_take, List.length_reverse, List.length_cons, List.length_nil]; omega)
  | _ :: _ :: _ :: _, ws, hl => exact absurd hl (by simp only [List.length_append, List.length_take, List.length_reverse, List.length_cons, List.length_nil]; omega)
theorem kb_self2 (F : Fun K x qual st f fd) (h0 : ∀ (kV doc pm : Value) (an : Option Addr) (cdv ct s v u : Value), bindArgs (FN x qual st kV doc pm an cdv ct) ⟨[s], [(r, u), (q, v)]⟩ = pure [(p, s), (q, v), (r, u)])
    (h1 : ∀ (kV doc pm : Value) (an : Option Addr) (cdv ct s v u : Value), bindArgs (FN x qual st kV doc pm an cdv ct) ⟨[s, v], [(r, u)]⟩ = pure [(p, s), (q, v), (r, u)])
    (h2 : ∀ (kV doc pm : Value) (an : Option Addr) (cdv ct s v u : Value), bindArgs (FN x qual st kV doc pm an cdv ct) ⟨[s, v, u], []⟩ = pure [(p, s), (q, v), (r, u)]) : KBinds K fd [p, q, r] [r, q] (fun us ws => us ++ (ws.take 2).reverse) fun vs zs => vs ++ (zs.take 2).reverse := by
  obtain ⟨oc, od, kV, doc, pm, an, cdv, ct, osl, rfl, _⟩ := F.ex
  refine ⟨fun s us ws _ hl => ?_, fun a b => a.append (vals_rev2 b)⟩
  match us, ws, hl with
  | [a], u :: v :: _, _ => exact .of_eq (h0 kV doc pm an cdv ct a v u)
  | [a, v], [u], _ => exact .of_eq (h1 kV doc pm an cdv ct a v u)
  | [a, v, u], [], _ => exact .of_eq (h2 kV doc pm an cdv ct a v u)
  | [], ws, hl => exact absurd hl (by simp only [List.length_append, List.length_take, List.length_reverse, List.length_cons, List.length_nil]; omega)
  | [a], [], hl => exact absurd hl (by simp only [List.length_append, List.length_take, List.length_reverse, List.length_cons, List.length_nil]; omega)
  | [a], [_], hl => exact absurd hl (by simp only [List.length_append, List.length_take, List.length_reverse, List.length_cons, List.length_nil]; omega)
  | [a, v], [], hl => exact absurd hl (by simp only [List.length_append, List.length_take, List.length_reverse, List.length_cons, List.length_nil]; omega)
  | [a, v], _ :: _ :: _, hl => exact absurd hl (by simp only [List.length_append, List.length_take, List.length_reverse, List.length_cons, List.length_nil]; omega)
  | [a, v, u], _ :: _, hl => exact absurd hl (by simp only [List.length_append, List.length_take, List.length_reverse, List.length_cons, List.length_nil]; omega)
  | _ :: _ :: _ :: _ :: _, ws, hl => exact absurd hl (by simp only [List.length_append, List.length_take, List.length_reverse, List.length_cons, List.length_nil]; omega)
theorem kb_three (F : Fun K x qual st f fd) (h0 : ∀ (kV doc pm : Value) (an : Option Addr) (cdv ct s v u : Value), bindArgs (FN x qual st kV doc pm an cdv ct) ⟨[], [(r, u), (q, v), (p, s)]⟩ = pure [(p, s), (q, v), (r, u)])
    (h1 : ∀ (kV doc pm : Value) (an : Option Addr) (cdv ct s v u : Value), bindArgs (FN x qual st kV doc pm an cdv ct) ⟨[s], [(r, u), (q, v)]⟩ = pure [(p, s), (q, v), (r, u)])
    (h2 : ∀ (kV doc pm : Value) (an : Option Addr) (cdv ct s v u : Value), bindArgs (FN x qual st kV doc pm an cdv ct) ⟨[s, v], [(r, u)]⟩ = pure [(p, s), (q, v), (r, u)])
    (h3 : ∀ (kV doc pm : Value) (an : Option Addr) (cdv ct s v u : Value), bindArgs (FN x qual st kV doc pm an cdv ct) ⟨[s, v, u], []⟩ = pure [(p, s), (q, v), (r, u)]) : KBinds K fd [p, q, r] [r, q, p] (fun us ws => us ++ (ws.take 3).reverse) fun vs zs => vs ++ (zs.take 3).reverse := by
  obtain ⟨oc, od, kV, doc, pm, an, cdv, ct, osl, rfl, _⟩ := F.ex
  refine ⟨fun s us ws _ hl => ?_, fun a b => a.append (vals_rev3 b)⟩
  match us, ws, hl with
  | [], u :: v :: a :: _, _ => exact .of_eq (h0 kV doc pm an cdv ct a v u)
  | [a], [u, v], _ => exact .of_eq (h1 kV doc pm an cdv ct a v u)
  | [a, v], [u], _ => exact .of_eq (h2 kV doc pm an cdv ct a v u)
  | [a, v, u], [], _ => exact .of_eq (h3 kV doc pm an cdv ct a v u)
  | [], [], hl => exact absurd hl (by simp only [List.length_append, List.length_take, List.length_reverse, List.length_cons, List.length_nil]; omega)
  | [], [_], hl => exact absurd hl (by simp only [List.length_append, List.length_take, List.length_reverse, List.length_cons, List.length_nil]; omega)
  | [], [_, _], hl => exact absurd hl (by simp only [List.length_append, List.length_take, List.length_reverse, List.length_cons, List.length_nil]; omega)
  | [a], [], hl => exact absurd hl (by simp only [List.length_append, List.length_take, List.length_reverse, List.length_cons, List.length_nil]; omega)
  | [a], [_], hl => exact absurd hl (by simp only [List.length_append, List.length_take, List.length_reverse, List.length_cons, List.length_nil]; omega)
  | [a], _ :: _ :: _ :: _, hl => exact absurd hl (by simp only [List.length_append, List.length_take, List.length_reverse, List.length_cons, List.length_nil]; omega)
  | [a, v], [], hl => exact absurd hl (by simp only [List.length_append, List.length_take, List.length_reverse, List.length_cons, List.length_nil]; omega)
  | [a, v], _ :: _ :: _, hl => exact absurd hl (by simp only [List.length_append, List.length_take, List.length_reverse, List.length_cons, List.length_nil]; omega)
  | [a, v, u], _ :: _, hl => exact absurd hl (by simp only [List.length_append, List.length_take, List.length_reverse, List.length_cons, List.length_nil]; omega)
  | _ :: _ :: _ :: _ :: _, ws, hl => exact absurd hl (by simp only [List.length_append, List.length_take, List.length_reverse, List.length_cons, List.length_nil]; omega)
end
end K34
end

section
set_option Elab.async false
set_option linter.all false
set_option maxRecDepth 100000
set_option maxHeartbeats 4000000
/-! what an ask is made of -/
namespace K34
open PySem L2 KZ
abbrev sCount : Stmt := top 16
abbrev sCheckAsk : Stmt := top 15
/-- x not in (a, b, ..), of data -/
def rNotInT (K : PySem.W.Frag) : R2 := fun x y H Q => ∃ d ts, Dp K H x d ∧ Dp K H y (.tuple ts) ∧ SeqAt.shaped d = true ∧ SeqAt.shaped (.tuple ts) = true ∧ Q (.bl (!ts.any fun z => PyData.eqv z d)) H
theorem op_notInT {X : Cx} (room : X.A.units + 65 < cLine) : OpR X (compareOp .NotIn) (rNotInT X.K) := by
  intro pins s σ H x y v u Q I rx ry h
  obtain ⟨d, ts, gx, gy, sx, sy, q⟩ := h
  have ⟨_, r1⟩ := Dp.reads I d x v gx rx
  have ⟨_, r2⟩ := Dp.reads I (.tuple ts) y u gy ry
  exact SeqAt.notIn_tuple_reads r2 r1 (SeqAt.canLay_of_shaped sy) (SeqAt.canLay_of_shaped sx) (PyProof.Rows.room_in_shaped sx room) ⟨.bl _, H, I, rfl, q⟩
theorem room65 {k : Nat} {A : Around} (r : Room (k + 1) A) : A.units + 65 < cLine := by have := r.un; omega
/-- no dict in it -/
def nod : PyData → Bool
  | .list ds => nods ds
  | .tuple ds => nods ds
  | .dict _ => false
  | _ => true
where nods : List PyData → Bool
  | [] => true
  | d :: r => nod d && nods r
theorem Dv.dp {K : PySem.W.Frag} {H : Hp} {v : V} {d : PyData} (h : Dv K H v d) : nod d = true → Dp K H v d := by
  refine Dv.rec (motive_1 := fun v d _ => nod d = true → Dp K H v d) (motive_2 := fun vs ds _ => nod.nods ds = true → DpAll K H vs ds) (motive_3 := fun _ _ _ => True) (fun _ => .non) (fun b _ => .bl b) (fun i _ => .int i) (fun x _ => .str x) ?_ ?_ ?_ (fun _ => .nil) ?_ trivial (fun _ _ _ _ => trivial) h
  · intro a xs ds h1 _ ih z
    exact .lst h1 (ih z)
  · intro a xs ds h1 _ ih z
    exact .tup h1 (ih z)
  · intro a kvs ps _ _ _ z
    cases z
  · intro v vs d ds _ _ i j z
    have ⟨z1, z2⟩ := Bool.and_eq_true_iff.mp (show (nod d && nod.nods ds) = true from z)
    exact .cons (i z1) (j z2)
def isCount : PyData → Bool
  | .int i => decide (0 ≤ i)
  | _ => false
def wordOk (w : PyData) : Bool := ([.str "put", .str "get"] : List PyData).any fun z => PyData.eqv z w
def isPut : PyData → Bool
  | .str x => decide (x = "put")
  | _ => false
def endOk (b e : PyData) : Bool := match e, b with
  | .none, _ => true
  | .int j, .int i => decide (i < j)
  | _, _ => false
def toldOk (w e t : PyData) : Bool := match t, e with
  | .none, _ => true
  | _, .none => false
  | t, _ => !isPut w && isCount t
/-- the first part that is wrong -/
def bad (c w b e t : PyData) : Option Str :=
  if isName c = true then if wordOk w = true then if isCount b = true then if endOk b e = true then if toldOk w e t = true then none else some "told" else some "ended" else some "begun" else some "word" else some "client"
def spCount (K : PySem.W.Frag) : Sp := fun vs H Q _ => ∃ v d, vs = [v] ∧ Dv K H v d ∧ Q (.bl (isCount d)) H
/-- an error of the class c is let out, its dict holds fs -/
def OutF (c : Addr) (fs : List (Str × V)) (H : Hp) (E : XK) : Prop := ∀ d H', Same H H' → H' d = some (.xd fs) → E (.ref c) (some d) H'
theorem OutF.at {c : Addr} {fs : List (Str × V)} {H H' : Hp} {E : XK} (q : OutF c fs H E) (s : Same H H') : OutF c fs H' E := fun d H2 s2 => q d H2 (s.trans s2)
def spCheck (K : PySem.W.Frag) (cB : Addr) : Sp := fun vs H Q E => ∃ vc dc vw dw vb db ve de vt dt, vs = [vc, vw, vb, ve, vt] ∧ Dv K H vc dc ∧ (∀ x, dc = .str x → x.length ≤ 1000) ∧ Dv K H vw dw ∧ nod dw = true ∧ SeqAt.shaped dw = true ∧ Dv K H vb db ∧ Dv K H ve de ∧ Dv K H vt dt ∧
  (bad dc dw db de dt = none → ∀ H', Same H H' → Q .non H') ∧ ∀ p, bad dc dw db de dt = some p → OutF cB [("part", .str p)] H E
section
variable {P : Program} {w : World} {K : PySem.W.Frag} {mg : Str → Option Value} {base : Heap} {fI fN fC cB : Addr} {dI dN dC : FuncData}
theorem scCount : FnScope ["value"] ["value"] (defScope sCount) := ⟨rfl, rfl, rfl, by decide +kernel, rfl, by decide +kernel, by decide +kernel⟩
theorem ok_count {f : Addr} {fd : FuncData} (F : Fun K "is_count" "is_count" sCount f fd) (T : B0 mg) (gI : mg "is_integer" = some (.ref fI)) (FI : Fun K "is_integer" "is_integer" sIsInt fI dI) (bI : Binds K dI ["value"] []) : FnOk P w K mg base CX0 2 f fd ["value"] (spCount K) := by
  have GI : FnOk P w K mg base CX0 1 fI dI ["value"] (spIsInt K) := ok_is_integer FI T
  refine F.ok scCount (fun vs H Q E h => ?_) (fun cdv A outer s H vs Q E hr h => ?_)
  · obtain ⟨v, d, rfl, _⟩ := h
    rfl
  · obtain ⟨v, d, rfl, hd, q⟩ := h
    have hr1 : Room 1 _ := hr.mono (by decide)
    refine ⟨_, (pss_one (ps_ret (pe_and (pe_call GI hr1 (by rfl) gI FI.kp bI .nil pass0 (pa_cons (pv 0) pa_nil)) (pe_one (pe_cmpR op_ge (pv 0) pe_int (nomark _)))))), ?_⟩
    refine ⟨v, rfl, v, d, rfl, hd, _, rfl, ?_⟩
    cases d with
    | int i =>
      cases hd
      exact iteT ⟨_, rfl, i, 0, rfl, rfl, q⟩
    | _ => exact iteF q
theorem scCheck : FnScope ["client", "word", "begun", "ended", "told"] ["client", "word", "begun", "ended", "told"] (defScope sCheckAsk) := ⟨rfl, rfl, rfl, by decide +kernel, rfl, by decide +kernel, by decide +kernel⟩
theorem raise_str {σ : L2.St} {H : Hp} {E : XK} {p : Str} (q : OutF cB [("part", .str p)] H E) : tMkO cB (spE1 K cB "part") [] (tCons (tC (.str p)) tNil) σ H fun cls d H' => E cls d H' := by
  refine ⟨(show 1 ≤ 1000 by decide), fun a ha => ⟨a, .str p, .str p, fun _ => none, rfl, trivial, (fun _ _ z => nomatch z), (fun _ _ _ z => nomatch z), rfl, .str _, upd_same, ?_⟩⟩
  intro v' G' dx H' s1 nf' bs ga gd hdx ne s' kp ea ed dv'
  cases dv'
  refine ⟨rfl, dx, _, ea, ed, by rw [upd_ne ne] at hdx; exact hdx, q dx _ (fun b o e => ?_) upd_same⟩
  have hb : b ≠ a := ne_of_none e ha
  rw [upd_ne ne] at hdx
  rw [upd_ne (ne_of_none e hdx), del_ne hb]
  exact kp _ _ hb (by rw [upd_ne hb]; exact e)
theorem put_word {H : Hp} {w : V} {dw : PyData} (g : Dv K H w dw) (ok : wordOk dw = true) : ∃ x, w = .str x ∧ dw = .str x := by
  cases g with
  | str x => exact ⟨x, rfl, rfl⟩
  | _ => exact absurd ok (by simp [wordOk, PyData.eqv])
theorem iteT' {A B : Prop} (h : A) : (if true = true then A else B) := by rw [if_pos rfl]; exact h
theorem iteF' {A B : Prop} (h : B) : (if false = true then A else B) := by rw [if_neg (by decide)]; exact h
theorem told_go {H : Hp} {Q : VK} {E : XK} {vc ve vt : V} {x : Str} {b : V} {de dt : PyData} (ge : Dv K H ve de) (gt : Dv K H vt dt) (q1 : toldOk (.str x) de dt = true → Q .non H) (q2 : toldOk (.str x) de dt = false → OutF cB [("part", .str "told")] H E) :
    tIfS (tAnd (tTest (tOp (fun x y H Q => y = V.non ∧ Q (V.bl !decide (x = V.non)) H) (tVar 4) (tC V.non))) (tOr (tTest (tOp rEq (tVar 1) (tC (V.str "put"))))
      (tOr (tTest (tOp (fun x y H Q => y = V.non ∧ Q (V.bl (decide (x = V.non))) H) (tVar 3) (tC V.non))) (tNot (tB (tCall (spCount K) [] E0 (tCons (tVar 4) tNil)))))))
      (fun _ σ H => tMkO cB (spE1 K cB "part") [] (tCons (tC (V.str "told")) tNil) σ H fun cls d H' => E cls d H') tNext { nx := fun _ H' => Q V.non H', rt := Q } (L2.start ["client", "word", "begun", "ended", "told"] [vc, .str x, b, ve, vt]) H := by
  have nn : ∀ {d : PyData} {v : V}, Dv K H v d → d ≠ .none → decide (v = V.non) = false := by
    intro d v h hn
    cases h <;> first | exact absurd rfl hn | exact decide_eq_false fun z => nomatch z
  by_cases tn : dt = .none
  · subst tn
    cases gt
    exact ⟨.non, rfl, rfl, false, rfl, iteF (iteF (q1 (by cases de <;> rfl)))⟩
  · refine ⟨vt, rfl, rfl, true, by rw [nn gt tn]; rfl, ?_⟩
    have tk : toldOk (.str x) de dt = (match de with
      | .none => false
      | _ => !isPut (.str x) && isCount dt) := by
      cases dt <;> first | exact absurd rfl tn | (cases de <;> rfl)
    by_cases px : x = "put"
    · subst px
      rw [show toldOk (.str "put") de dt = false by rw [tk]; cases de <;> rfl] at q2
      exact iteT' ⟨.str "put", rfl, rfl, true, rfl, iteT' (iteT' (raise_str (q2 rfl)))⟩
    · have e1 : V.bl (decide (V.str x = V.str "put")) = V.bl false := congrArg V.bl (decide_eq_false fun z => px (V.str.inj z))
      have ip : isPut (.str x) = false := decide_eq_false px
      refine iteT' ⟨.str x, rfl, rfl, false, e1, iteF' ?_⟩
      by_cases en : de = .none
      · subst en
        cases ge
        exact ⟨.non, rfl, rfl, true, rfl, iteT' (iteT' (raise_str (q2 (by rw [tk]))))⟩
      · refine ⟨ve, rfl, rfl, false, by rw [nn ge en], iteF' ⟨vt, rfl, vt, dt, rfl, gt, isCount dt, rfl, ?_⟩⟩
        have tk2 : toldOk (.str x) de dt = isCount dt := by
          rw [tk, ip]
          cases de <;> first | exact absurd rfl en | rfl
        cases c : isCount dt with
        | true => exact iteF' (q1 (tk2.trans c))
        | false => exact iteT' (raise_str (q2 (tk2.trans c)))
theorem ok_check_ask {f : Addr} {fd : FuncData} (F : Fun K "check_ask" "check_ask" sCheckAsk f fd) (T : B0 mg) (C : C0 mg fI) (gN : mg "is_name" = some (.ref fN)) (gC : mg "is_count" = some (.ref fC))
    (FI : Fun K "is_integer" "is_integer" sIsInt fI dI) (bI : Binds K dI ["value"] []) (FN : Fun K "is_name" "is_name" sIsName fN dN) (bN : Binds K dN ["value"] []) (FC : Fun K "is_count" "is_count" sCount fC dC) (bC : Binds K dC ["value"] [])
    (M : Mk1 P w K mg base "BadAsk" cB "part" "part") : FnOk P w K mg base (L2.CX P w) 7 f fd ["client", "word", "begun", "ended", "told"] (spCheck K cB) := by
  have GI : FnOk P w K mg base CX0 1 fI dI ["value"] (spIsInt K) := ok_is_integer FI T
  have GN : FnOk P w K mg base CX0 1 fN dN ["value"] (spName K) := ok_is_name FN T C
  have GC : FnOk P w K mg base CX0 2 fC dC ["value"] (spCount K) := ok_count FC T C.gI FI bI
  have gI := C.gI
  obtain ⟨fR, dR, ER, FR, bR, _⟩ := M.has
  refine F.okX scCheck (fun vs H Q E h => ?_) (fun cdv A outer s H vs Q E hr h => ?_)
  · obtain ⟨vc, dc, vw, dw, vb, db, ve, de, vt, dt, rfl, _⟩ := h
    rfl
  · obtain ⟨vc, dc, vw, dw, vb, db, ve, de, vt, dt, rfl, gc, sz, gw, nw, sw, gb, ge, gt, q1, q2⟩ := h
    have hr1 : Room 1 _ := hr.mono (by decide)
    have hr2 : Room 2 _ := hr.mono (by decide)
    refine ⟨_, (pss_cons (ps_if (pt_not (pt_val (pe_call GN hr1 (by rfl) gN FN.kp bN .nil pass0 (pa_cons (pv 0) pa_nil))))
(pss_one (ps_raise rfl (takes_of rfl rfl rfl rfl) (pmk_oex ER.ox ER.ini ER.ti FR hr bR .nil pass0 (by rfl) ER.gl (pa_cons pe_str pa_nil))))
pss_nil)
(pss_cons (ps_if (pt_cmpR (op_notInT (room65 hr)) (pv 1) (pe_tup (pa_cons pe_str (pa_cons pe_str pa_nil))) (by rfl))
(pss_one (ps_raise rfl (takes_of rfl rfl rfl rfl) (pmk_oex ER.ox ER.ini ER.ti FR hr bR .nil pass0 (by rfl) ER.gl (pa_cons pe_str pa_nil))))
pss_nil)
(pss_cons (ps_if (pt_not (pt_val (pe_call GC hr2 (by rfl) gC FC.kp bC .nil pass0 (pa_cons (pv 2) pa_nil))))
(pss_one (ps_raise rfl (takes_of rfl rfl rfl rfl) (pmk_oex ER.ox ER.ini ER.ti FR hr bR .nil pass0 (by rfl) ER.gl (pa_cons pe_str pa_nil))))
pss_nil)
(pss_cons (ps_if (PW.pt (pw_and (pt_cmpR op_notN (pv 3) pe_non (nomark _)) (pw_and1 (pt_not (PW.pt (pw_and (pt_val (pe_call GI hr1 (by rfl) gI FI.kp bI .nil pass0 (pa_cons (pv 3) pa_nil))) (pw_and1 (pt_cmpR op_gt (pv 3) (pv 2) (nomark _)))))))))
(pss_one (ps_raise rfl (takes_of rfl rfl rfl rfl) (pmk_oex ER.ox ER.ini ER.ti FR hr bR .nil pass0 (by rfl) ER.gl (pa_cons pe_str pa_nil))))
pss_nil)
(pss_one (ps_if (PW.pt (pw_and (pt_cmpR op_notN (pv 4) pe_non (nomark _)) (pw_and1 (PW.pt (pw_or (pt_cmpR op_eq (pv 1) pe_str (nomark _)) (pw_or (pt_cmpR op_isN (pv 3) pe_non (nomark _)) (pw_or1 (pt_not (pt_val (pe_call GC hr2 (by rfl) gC FC.kp bC .nil pass0 (pa_cons (pv 4) pa_nil)))))))))))
(pss_one (ps_raise rfl (takes_of rfl rfl rfl rfl) (pmk_oex ER.ox ER.ini ER.ti FR hr bR .nil pass0 (by rfl) ER.gl (pa_cons pe_str pa_nil))))
pss_nil)))))), ?_⟩
    refine ⟨vc, rfl, vc, dc, rfl, gc, sz, fun H1 s1 => ⟨isName dc, rfl, ?_⟩⟩
    cases c1 : isName dc with
    | false => exact iteT (raise_str ((q2 "client" (by unfold bad; rw [c1]; rfl)).at s1))
    | true =>
    refine iteF ?_
    refine ⟨vw, rfl, (by show 2 ≤ sizeLine; decide), fun t ht => ?_⟩
    have s2 := s1.trans (same_new (o := .tup [V.str "put", V.str "get"]) ht)
    have gw2 := Dv.mono s2 gw
    have gb2 := Dv.mono s2 gb
    have ge2 := Dv.mono s2 ge
    have gt2 := Dv.mono s2 gt
    refine ⟨dw, [.str "put", .str "get"], Dv.dp gw2 nw, .tup (SqT.of upd_same) (.cons (.str _) (.cons (.str _) .nil)), sw, by decide +kernel, !wordOk dw, rfl, ?_⟩
    generalize upd H1 t _ = H2 at s2 gw2 gb2 ge2 gt2 ⊢
    cases c2 : wordOk dw with
    | false => exact iteT (raise_str ((q2 "word" (by unfold bad; rw [c1, c2]; rfl)).at s2))
    | true =>
    refine iteF ?_
    refine ⟨vb, rfl, vb, db, rfl, gb2, isCount db, rfl, ?_⟩
    cases c3 : isCount db with
    | false => exact iteT (raise_str ((q2 "begun" (by unfold bad; rw [c1, c2, c3]; rfl)).at s2))
    | true =>
    refine iteF ?_
    obtain ⟨i, rfl⟩ : ∃ i, db = .int i := by
      cases db with
      | int i => exact ⟨i, rfl⟩
      | _ => cases c3
    cases gb2
    obtain ⟨x, rfl, rfl⟩ := put_word gw2 c2
    have fin : endOk (.int i) de = true → toldOk (.str x) de dt = true → bad dc (.str x) (.int i) de dt = none := fun z1 z2 => by unfold bad; rw [c1, c2, c3, z1, z2]; rfl
    have fin2 : endOk (.int i) de = true → toldOk (.str x) de dt = false → bad dc (.str x) (.int i) de dt = some "told" := fun z1 z2 => by unfold bad; rw [c1, c2, c3, z1, z2]; rfl
    have fin3 : endOk (.int i) de = false → bad dc (.str x) (.int i) de dt = some "ended" := fun z1 => by unfold bad; rw [c1, c2, c3, z1]; rfl
    have last : ∀ vb, endOk (.int i) de = true → _ := fun vb z1 => told_go (vc := vc) (b := vb) (H := H2) (Q := Q) (E := E) ge2 gt2 (fun z2 => q1 (fin z1 z2) H2 s2) (fun z2 => (q2 "told" (fin2 z1 z2)).at s2)
    by_cases en : de = .none
    · subst en
      cases ge2
      exact ⟨.non, rfl, rfl, false, rfl, iteF' (iteF' (last (.int i) rfl))⟩
    · have nn : decide (ve = V.non) = false := by
        cases ge2 <;> first | exact absurd rfl en | exact decide_eq_false fun z => nomatch z
      refine ⟨ve, rfl, rfl, true, by rw [nn]; rfl, iteT' ⟨ve, rfl, ve, de, rfl, ge2, isInt de, rfl, ?_⟩⟩
      cases de with
      | int j =>
        cases ge2
        refine iteT' ⟨.int j, rfl, .int i, rfl, j, i, rfl, rfl, decide (i < j), rfl, ?_⟩
        cases c4 : decide (i < j) with
        | true => exact iteF' (last (.int i) c4)
        | false => exact iteT' (raise_str ((q2 "ended" (fin3 c4)).at s2))
      | none => exact absurd rfl en
      | _ => exact iteF' (iteT' (raise_str ((q2 "ended" (fin3 rfl)).at s2)))
end
end K34
end

section
set_option Elab.async false
set_option linter.all false
set_option maxRecDepth 100000
set_option maxHeartbeats 4000000
/-! an ask -/
namespace K34
open PySem L2 KZ
abbrev sInit : Stmt := mem 12 0
abbrev sAhead : Stmt := mem 12 1
abbrev sEq : Stmt := mem 12 2
/-- what an ask is made of: client, whether it is a get, begin, end, what it tells -/
structure Row where
  c : Str
  g : Bool
  b : Int
  e : Option Int
  t : Option Int
  deriving DecidableEq
def wd : Bool → Str
  | true => "get"
  | false => "put"
def oV : Option Int → V
  | none => .non
  | some i => .int i
def oD : Option Int → PyData
  | none => .none
  | some i => .int i
theorem oV_dv {K : PySem.W.Frag} {H : Hp} (o : Option Int) : Dv K H (oV o) (oD o) := by
  cases o with
  | none => exact .non
  | some i => exact .int i
structure Row.Ok (r : Row) : Prop where
  n : isName (.str r.c) = true
  b0 : 0 ≤ r.b
  eb : ∀ e, r.e = some e → r.b < e
  tg : ∀ t, r.t = some t → r.g = true ∧ r.e ≠ none ∧ 0 ≤ t
def flds (r : Row) : List (Str × V) := [("client", .str r.c), ("word", .str (wd r.g)), ("begun", .int r.b), ("ended", oV r.e), ("told", oV r.t)]
/-- at a stands the ask of the row r -/
def AskAt (C : Addr) (H : Hp) (a : Addr) (r : Row) : Prop := ∃ dx, H a = some (.ins C dx (flds r))
theorem AskAt.mono {C : Addr} {H H' : Hp} {a : Addr} {r : Row} (s : Same H H') (h : AskAt C H a r) : AskAt C H' a r := h.imp fun _ z => s _ _ z
theorem bad_none {c w b e t : PyData} (h : bad c w b e t = none) : ∃ r : Row, r.Ok ∧ c = .str r.c ∧ w = .str (wd r.g) ∧ b = .int r.b ∧ e = oD r.e ∧ t = oD r.t := by
  unfold bad at h
  cases h1 : isName c with
  | false => rw [h1] at h; cases h
  | true =>
  cases h2 : wordOk w with
  | false => rw [h1, h2] at h; cases h
  | true =>
  cases h3 : isCount b with
  | false => rw [h1, h2, h3] at h; cases h
  | true =>
  cases h4 : endOk b e with
  | false => rw [h1, h2, h3, h4] at h; cases h
  | true =>
  cases h5 : toldOk w e t with
  | false => rw [h1, h2, h3, h4, h5] at h; cases h
  | true =>
  obtain ⟨x, rfl⟩ : ∃ x, c = .str x := by
    cases c with
    | str x => exact ⟨x, rfl⟩
    | _ => cases h1
  obtain ⟨g, rfl⟩ : ∃ g, w = .str (wd g) := by
    cases w with
    | str x =>
      have z : (decide (("put" : Str) = x) || (decide (("get" : Str) = x) || false)) = true := h2
      rcases Bool.or_eq_true_iff.mp z with z | z
      · exact ⟨false, by rw [← of_decide_eq_true z]; rfl⟩
      · rw [Bool.or_false] at z
        exact ⟨true, by rw [← of_decide_eq_true z]; rfl⟩
    | _ => cases h2
  obtain ⟨i, rfl⟩ : ∃ i, b = .int i := by
    cases b with
    | int i => exact ⟨i, rfl⟩
    | _ => cases h3
  obtain ⟨oe, rfl⟩ : ∃ o, e = oD o := by
    cases e with
    | none => exact ⟨none, rfl⟩
    | int j => exact ⟨some j, rfl⟩
    | _ => cases h4
  obtain ⟨ot, rfl⟩ : ∃ o, t = oD o := by
    cases t with
    | none => exact ⟨none, rfl⟩
    | int j => exact ⟨some j, rfl⟩
    | _ => cases oe <;> simp [toldOk, oD, isCount] at h5
  refine ⟨⟨x, g, i, oe, ot⟩, ⟨h1, of_decide_eq_true h3, ?_, ?_⟩, rfl, rfl, rfl, rfl, rfl⟩
  · rintro e rfl
    exact of_decide_eq_true h4
  · rintro t rfl
    cases oe with
    | none => cases h5
    | some e =>
      have ⟨z1, z2⟩ := Bool.and_eq_true_iff.mp (show (!isPut (.str (wd g)) && isCount (.int t)) = true from h5)
      refine ⟨?_, fun z => (nomatch z), of_decide_eq_true z2⟩
      cases g with
      | true => rfl
      | false => cases z1
theorem bad_of {r : Row} (k : r.Ok) : bad (.str r.c) (.str (wd r.g)) (.int r.b) (oD r.e) (oD r.t) = none := by
  obtain ⟨c, g, b, e, t⟩ := r
  have h2 : wordOk (.str (wd g)) = true := by cases g <;> decide +kernel
  have h3 : isCount (.int b) = true := decide_eq_true k.b0
  have h4 : endOk (.int b) (oD e) = true := by
    cases e with
    | none => rfl
    | some e => exact decide_eq_true (k.eb e rfl)
  have h5 : toldOk (.str (wd g)) (oD e) (oD t) = true := by
    cases t with
    | none => cases e <;> rfl
    | some t =>
      obtain ⟨z1, z2, z3⟩ := k.tg t rfl
      have z1 : g = true := z1
      subst z1
      cases e with
      | none => exact absurd rfl z2
      | some e =>
        show (!isPut (.str "get") && isCount (.int t)) = true
        rw [show isCount (.int t) = true from decide_eq_true z3]
        decide +kernel
  have h1 : isName (.str c) = true := k.n
  unfold bad
  rw [h1, h2, h3, h4, h5]
  rfl
/-- the class Ask, as the top has left it -/
structure AskC (K : PySem.W.Frag) (mg : Str → Option Value) (C : Addr) : Prop where
  mg : mg "Ask" = some (.ref C)
  cl : Cls K C
  nc : NoAttr K C "client"
  nw : NoAttr K C "word"
  nb : NoAttr K C "begun"
  ne : NoAttr K C "ended"
  nt : NoAttr K C "told"
  ty : ∀ (H : Hp) (a dx : Addr) (fs : List (Str × V)), H a = some (.ins C dx fs) → TyOf K H (.ref a) (.ref C)
  me : PySem.W.kitOne K (.ref C) (.ref C) = some true
  no : ∀ T ∈ ["NoneType", "bool", "int", "str", "list", "tuple", "dict"], PySem.W.kitOne K (.type T) (.ref C) = some false
def spInit (K : PySem.W.Frag) (C cB : Addr) : Sp := fun vs H Q E => ∃ a dx vc dc vw dw vb db ve de vt dt, vs = [.ref a, vc, vw, vb, ve, vt] ∧ H a = some (.ins C dx []) ∧ Dv K H vc dc ∧ (∀ x, dc = .str x → x.length ≤ 1000) ∧ Dv K H vw dw ∧ nod dw = true ∧ SeqAt.shaped dw = true ∧ Dv K H vb db ∧ Dv K H ve de ∧ Dv K H vt dt ∧
  (∀ r : Row, r.Ok → dc = .str r.c → dw = .str (wd r.g) → db = .int r.b → de = oD r.e → dt = oD r.t → ∀ H', (∀ b o, b ≠ a → H b = some o → H' b = some o) → AskAt C H' a r → Q .non H') ∧ ∀ p, bad dc dw db de dt = some p → OutF cB [("part", .str p)] H E
/-- one ask ahead of another one -/
def ahead (r s : Row) : Bool := match r.e with
  | none => false
  | some e => decide (e < s.b)
/-- what is no ask -/
def NoAsk (K : PySem.W.Frag) (H : Hp) (C : Addr) (v : V) : Prop := ∃ t, TyX K H v t ∧ PySem.W.kitOne K t (.ref C) = some false
def spAhead (K : PySem.W.Frag) (C cB : Addr) : Sp := fun vs H Q E => ∃ a r y, vs = [.ref a, y] ∧ AskAt C H a r ∧ ((∃ b s, y = .ref b ∧ AskAt C H b s ∧ Q (.bl (ahead r s)) H) ∨ (NoAsk K H C y ∧ OutF cB [("part", .str "other")] H E))
def spEqA (K : PySem.W.Frag) (C : Addr) : Sp := fun vs H Q _ => ∃ a r y, vs = [.ref a, y] ∧ AskAt C H a r ∧ ((∃ b s, y = .ref b ∧ AskAt C H b s ∧ Q (.bl (decide (r = s))) H) ∨ (NoAsk K H C y ∧ Q (.bl false) H))
section
variable {P : Program} {w : World} {K : PySem.W.Frag} {mg : Str → Option Value} {base : Heap} {fK cB C : Addr} {dK : FuncData}
theorem scInit : FnScope ["self", "client", "word", "begun", "ended", "told"] ["self", "client", "word", "begun", "ended", "told"] (defScope sInit) := ⟨rfl, rfl, rfl, by decide +kernel, rfl, by decide +kernel, by decide +kernel⟩
theorem ok_init {f : Addr} {fd : FuncData} {q : Str} (F : FunD K "__init__" q (defArgs sInit) (defBody sInit) (defScope sInit) [.non, .non] [] f fd) (A : AskC K mg C) (gK : mg "check_ask" = some (.ref fK))
    (GK : FnOk P w K mg base (L2.CX P w) 7 fK dK ["client", "word", "begun", "ended", "told"] (spCheck K cB)) (FK : Fun K "check_ask" "check_ask" sCheckAsk fK dK) (bK : Binds K dK ["client", "word", "begun", "ended", "told"] []) :
    FnOk P w K mg base (L2.CX P w) 8 f fd ["self", "client", "word", "begun", "ended", "told"] (spInit K C cB) := by
  refine F.ok scInit (fun vs H Q E h => ?_) (fun cdv A' outer s H vs Q E hr h => ?_)
  · obtain ⟨a, dx, vc, dc, vw, dw, vb, db, ve, de, vt, dt, rfl, _⟩ := h
    rfl
  · obtain ⟨a, dx, vc, dc, vw, dw, vb, db, ve, de, vt, dt, rfl, ha, gc, sz, gw, nw, sw, gb, ge, gt, q1, q2⟩ := h
    refine ⟨_, (pss_cons (ps_expr (pe_call GK hr (by rfl) gK FK.kp bK .nil (passes_call (takes_of rfl rfl rfl rfl) fun _ _ _ _ z => z) (pa_cons (pv 1) (pa_cons (pv 2) (pa_cons (pv 3) (pa_cons (pv 4) (pa_cons (pv 5) pa_nil)))))))
(pss_cons (ps_fld (pv 0) (pv 1) rfl)
(pss_cons (ps_fld (pv 0) (pv 2) rfl)
(pss_cons (ps_fld (pv 0) (pv 3) rfl)
(pss_cons (ps_fld (pv 0) (pv 4) rfl)
(pss_one (ps_fld (pv 0) (pv 5) rfl))))))), ?_⟩
    refine ⟨vc, rfl, vw, rfl, vb, rfl, ve, rfl, vt, rfl, vc, dc, vw, dw, vb, db, ve, de, vt, dt, rfl, gc, sz, gw, nw, sw, gb, ge, gt, fun z H1 s1 => ?_, fun p z => q2 p z⟩
    obtain ⟨r, ok, rfl, rfl, rfl, rfl, rfl⟩ := bad_none z
    have e1 : vc = .str r.c := by cases gc; rfl
    have e2 : vw = .str (wd r.g) := by cases gw; rfl
    have e3 : vb = .int r.b := by cases gb; rfl
    have e4 : ve = oV r.e := by cases h : r.e <;> (rw [h] at ge; cases ge; rfl)
    have e5 : vt = oV r.t := by cases h : r.t <;> (rw [h] at gt; cases gt; rfl)
    subst e1 e2 e3 e4 e5
    have h1 := s1 _ _ ha
    refine ⟨_, rfl, _, rfl, a, C, dx, [], rfl, h1, A.cl, A.nc, (by decide), ?_⟩
    refine ⟨_, rfl, _, rfl, a, C, dx, _, rfl, upd_same, A.cl, A.nw, (by show 1 < 1000; decide), ?_⟩
    refine ⟨_, rfl, _, rfl, a, C, dx, _, rfl, upd_same, A.cl, A.nb, (by show 2 < 1000; decide), ?_⟩
    refine ⟨_, rfl, _, rfl, a, C, dx, _, rfl, upd_same, A.cl, A.ne, (by show 3 < 1000; decide), ?_⟩
    refine ⟨_, rfl, _, rfl, a, C, dx, _, rfl, upd_same, A.cl, A.nt, (by show 4 < 1000; decide), ?_⟩
    refine q1 r ok rfl rfl rfl rfl rfl _ (fun b o hb e => ?_) ⟨dx, upd_same⟩
    rw [upd_ne hb, upd_ne hb, upd_ne hb, upd_ne hb, upd_ne hb]
    exact s1 _ _ e
theorem scAhead : FnScope ["self", "other"] ["self", "other"] (defScope sAhead) := ⟨rfl, rfl, rfl, by decide +kernel, rfl, by decide +kernel, by decide +kernel⟩
theorem ok_ahead {f : Addr} {fd : FuncData} {q : Str} (F : Fun K "is_ahead" q sAhead f fd) (A : AskC K mg C) (T : B0 mg) (M : Mk1 P w K mg base "BadAsk" cB "part" "part") : FnOk P w K mg base (L2.CX P w) 7 f fd ["self", "other"] (spAhead K C cB) := by
  obtain ⟨fR, dR, ER, FR, bR, _⟩ := M.has
  refine F.okX scAhead (fun vs H Q E h => ?_) (fun cdv A' outer s H vs Q E hr h => ?_)
  · obtain ⟨a, r, y, rfl, _⟩ := h
    rfl
  · obtain ⟨a, r, y, rfl, ⟨dx, ha⟩, h⟩ := h
    refine ⟨_, (pss_cons (ps_if (pt_not (pt_val (pe_callB call_isi (by rfl) T.isi (by decide +kernel) (pa_cons (pv 1) (pa_cons (pe_glob (v := .ref C) (by rfl) A.mg rfl) pa_nil)))))
(pss_one (ps_raise rfl (takes_of rfl rfl rfl rfl) (pmk_oex ER.ox ER.ini ER.ti FR hr bR .nil pass0 (by rfl) ER.gl (pa_cons pe_str pa_nil))))
pss_nil)
(pss_one (ps_ret (pe_and (pe_cmpR op_notN (pe_fld (pv 0) rfl) pe_non (nomark _)) (pe_one (pe_cmpR op_lt (pe_fld (pv 0) rfl) (pe_fld (pv 1) rfl) (nomark _))))))), ?_⟩
    rcases h with ⟨b, s, rfl, ⟨dy, hb⟩, q⟩ | ⟨⟨t, ty, kn⟩, q⟩
    · refine ⟨.ref b, rfl, .ref b, .ref C, _, _, true, rfl, .own _, .base (A.ty H b dy _ hb), A.me, true, rfl, iteF' ?_⟩
      cases he : r.e with
      | none =>
        have q : Q (.bl false) H := by rw [ahead, he] at q; exact q
        refine ⟨_, rfl, a, C, dx, flds r, .non, rfl, ha, A.cl, A.ne, by rw [flds, he]; rfl, rfl, false, rfl, iteF' q⟩
      | some e =>
        have q : Q (.bl (decide (e < s.b))) H := by rw [ahead, he] at q; exact q
        refine ⟨_, rfl, a, C, dx, flds r, .int e, rfl, ha, A.cl, A.ne, by rw [flds, he]; rfl, rfl, true, rfl, iteT' ?_⟩
        exact ⟨_, rfl, a, C, dx, flds r, .int e, rfl, ha, A.cl, A.ne, by rw [flds, he]; rfl, _, rfl, b, C, dy, flds s, .int s.b, rfl, hb, A.cl, A.nb, rfl, e, s.b, rfl, rfl, q⟩
    · exact ⟨y, rfl, y, .ref C, _, _, false, rfl, .own _, ty, kn, false, rfl, iteT' (raise_str q)⟩
theorem scEq : FnScope ["self", "other"] ["self", "other"] (defScope sEq) := ⟨rfl, rfl, rfl, by decide +kernel, rfl, by decide +kernel, by decide +kernel⟩
theorem ok_eq {f : Addr} {fd : FuncData} {q : Str} (F : Fun K "__eq__" q sEq f fd) (A : AskC K mg C) (T : B0 mg) : FnOk P w K mg base CX0 1 f fd ["self", "other"] (spEqA K C) := by
  refine F.ok scEq (fun vs H Q E h => ?_) (fun cdv A' outer s H vs Q E hr h => ?_)
  · obtain ⟨a, r, y, rfl, _⟩ := h
    rfl
  · obtain ⟨a, r, y, rfl, ⟨dx, ha⟩, h⟩ := h
    refine ⟨_, (pss_cons (ps_if (pt_not (pt_val (pe_callB call_isi (by rfl) T.isi (by decide +kernel) (pa_cons (pv 1) (pa_cons (pe_glob (v := .ref C) (by rfl) A.mg rfl) pa_nil)))))
(pss_one (ps_ret pe_bl))
pss_nil)
(pss_cons (ps_if (PW.pt (pw_or (pt_cmpR op_ne (pe_fld (pv 0) rfl) (pe_fld (pv 1) rfl) (nomark _)) (pw_or (pt_cmpR op_ne (pe_fld (pv 0) rfl) (pe_fld (pv 1) rfl) (nomark _)) (pw_or1 (pt_cmpR op_ne (pe_fld (pv 0) rfl) (pe_fld (pv 1) rfl) (nomark _))))))
(pss_one (ps_ret pe_bl))
pss_nil)
(pss_one (ps_ret (pe_and (pe_cmpR op_eq (pe_fld (pv 0) rfl) (pe_fld (pv 1) rfl) (nomark _)) (pe_one (pe_cmpR op_eq (pe_fld (pv 0) rfl) (pe_fld (pv 1) rfl) (nomark _)))))))), ?_⟩
    rcases h with ⟨b, s, rfl, ⟨dy, hb⟩, q⟩ | ⟨⟨t, ty, kn⟩, q⟩
    · refine ⟨.ref b, rfl, .ref b, .ref C, _, _, true, rfl, .own _, .base (A.ty H b dy _ hb), A.me, true, rfl, iteF' ?_⟩
      refine ⟨_, rfl, a, C, dx, flds r, .str r.c, rfl, ha, A.cl, A.nc, rfl, _, rfl, b, C, dy, flds s, .str s.c, rfl, hb, A.cl, A.nc, rfl, ?_⟩
      have dq : ∀ {x y : V} {p : Prop} [Decidable p], (p ↔ x = y) → decide (x = y) = decide p := fun {x y p} _ h => by
        by_cases z : p
        · rw [decide_eq_true z, decide_eq_true (h.mp z)]
        · rw [decide_eq_false z, decide_eq_false fun k => z (h.mpr k)]
      have ne : ∀ {x y : V} {p : Prop} [Decidable p], (p ↔ x = y) → V.bl (!decide (x = y)) = V.bl (!decide p) := fun h => by rw [dq h]
      have eq : ∀ {x y : V} {p : Prop} [Decidable p], (p ↔ x = y) → V.bl (decide (x = y)) = V.bl (decide p) := fun h => by rw [dq h]
      have iO : ∀ o u : Option Int, o = u ↔ oV o = oV u := fun o u => ⟨fun z => by rw [z], fun z => by
        cases o <;> cases u <;> first | rfl | (cases z; done) | (cases z; rfl)⟩
      have sO : ∀ o u : Option Int, scal (oV o) (oV u) = true := fun o u => by cases o <;> cases u <;> rfl
      have iW : r.g = s.g ↔ V.str (wd r.g) = V.str (wd s.g) := ⟨fun z => by rw [z], fun z => by
        have z := V.str.inj z
        cases hg : r.g <;> cases hk : s.g <;> first | rfl | (rw [hg, hk] at z; exact absurd z (by decide))⟩
      have iS : r.c = s.c ↔ V.str r.c = V.str s.c := ⟨fun z => by rw [z], V.str.inj⟩
      have iB : r.b = s.b ↔ V.int r.b = V.int s.b := ⟨fun z => by rw [z], V.int.inj⟩
      have off : r ≠ s → Q (.bl false) H := fun z => by rw [decide_eq_false z] at q; exact q
      refine ⟨rfl, _, ne iS, ?_⟩
      by_cases c1 : r.c = s.c
      · rw [decide_eq_true c1]
        refine iteF' ⟨_, rfl, a, C, dx, flds r, .str (wd r.g), rfl, ha, A.cl, A.nw, rfl, _, rfl, b, C, dy, flds s, .str (wd s.g), rfl, hb, A.cl, A.nw, rfl, rfl, _, ne iW, ?_⟩
        by_cases c2 : r.g = s.g
        · rw [decide_eq_true c2]
          refine iteF' ⟨_, rfl, a, C, dx, flds r, oV r.t, rfl, ha, A.cl, A.nt, rfl, _, rfl, b, C, dy, flds s, oV s.t, rfl, hb, A.cl, A.nt, rfl, sO _ _, _, ne (iO _ _), ?_⟩
          by_cases c3 : r.t = s.t
          · rw [decide_eq_true c3]
            refine iteF' ?_
            refine ⟨_, rfl, a, C, dx, flds r, .int r.b, rfl, ha, A.cl, A.nb, rfl, _, rfl, b, C, dy, flds s, .int s.b, rfl, hb, A.cl, A.nb, rfl, rfl, _, eq iB, ?_⟩
            by_cases c4 : r.b = s.b
            · rw [decide_eq_true c4]
              refine iteT' ⟨_, rfl, a, C, dx, flds r, oV r.e, rfl, ha, A.cl, A.ne, rfl, _, rfl, b, C, dy, flds s, oV s.e, rfl, hb, A.cl, A.ne, rfl, sO _ _, ?_⟩
              rw [eq (iO r.e s.e)]
              have e : decide (r = s) = decide (r.e = s.e) := by
                by_cases c5 : r.e = s.e
                · rw [decide_eq_true c5]
                  refine decide_eq_true ?_
                  obtain ⟨x1, x2, x3, x4, x5⟩ := r
                  obtain ⟨y1, y2, y3, y4, y5⟩ := s
                  cases c1; cases c2; cases c3; cases c4; cases c5
                  rfl
                · rw [decide_eq_false c5]
                  exact decide_eq_false fun z => c5 (by rw [z])
              rw [← e]
              exact q
            · rw [decide_eq_false c4]
              exact iteF' (off fun z => c4 (by rw [z]))
          · rw [decide_eq_false c3]
            exact iteT' (off fun z => c3 (by rw [z]))
        · rw [decide_eq_false c2]
          exact iteT' (iteT' (off fun z => c2 (by rw [z])))
      · rw [decide_eq_false c1]
        exact iteT' (iteT' (off fun z => c1 (by rw [z])))
    · exact ⟨y, rfl, y, .ref C, _, _, false, rfl, .own _, ty, kn, false, rfl, iteT' q⟩
end
end K34
end

section
set_option Elab.async false
set_option linter.all false
set_option maxRecDepth 100000
set_option maxHeartbeats 4000000
/-! a history is looked at -/
namespace K34
open PySem L2 KZ
abbrev sNeed : Stmt := top 17
structure B1 (mg : Str → Option Value) : Prop extends B0 mg where
  range : mg "range" = none
  max : mg "max" = none
  min : mg "min" = none
  sorted : mg "sorted" = none
  repr : mg "repr" = none
  abs : mg "abs" = none
  enum : mg "enumerate" = none
section
variable {X : Cx}
theorem call_isiQ (K : PySem.W.Frag) (h : X.K = K := by rfl) : CallR X (.builtin "isinstance") (rIsi K) := by subst h; exact call_isi
theorem ix_seqK (K : PySem.W.Frag) (h : X.K = K := by rfl) : IxR X (rIx K) := by subst h; exact ix_seq
theorem pe_fldK {e : Expr} {f : Str} {pos : Pos} {ta : TE} (K : PySem.W.Frag) (he : PE X e ta) (hb : attributeBase e f X.env (eval e X.env) = eval e X.env) (h : X.K = K := by rfl) : PE X (.Attribute e f pos) (tFld K ta f) := by
  subst h
  exact pe_fld he hb
end
theorem at_nat {α : Type} {xs : List α} {i : Nat} {v : α} (h : xs[i]? = some v) : atI xs (i : Int) = some v := by
  have hl := (List.getElem?_eq_some_iff.mp h).1
  unfold atI ixN
  rw [if_pos (by omega), if_pos (by omega)]
  exact h
/-- a list or a tuple -/
def Sq (K : PySem.W.Frag) (H : Hp) (a : Addr) (xs : List V) : Prop := SqL K H a xs ∨ SqT K H a xs
theorem Sq.mono {K : PySem.W.Frag} {H H' : Hp} {a : Addr} {xs : List V} (s : Same H H') (h : Sq K H a xs) : Sq K H' a xs := h.elim (fun z => .inl (s.seq z)) fun z => .inr (sqT_mono s z)
def iSq (K : PySem.W.Frag) (tl : TE) : TI := fun σ H R => tl σ H fun x H1 => ∃ a xs, x = .ref a ∧ Sq K H1 a xs ∧ ∀ J G, Walk J xs.length G (YAt xs) → (∀ H, Same H1 H → G H) → R J H1
theorem pi_sq {X : Cx} {tg l : Expr} {tl : TE} (hl : PE X l tl) : PI X tg l (iSq X.K tl) := by
  refine ⟨fun pins s σ H R I h => thn (hl.run pins s σ H _ I h) fun v s1 ⟨x, H1, I1, r1, q1⟩ => ?_⟩
  obtain ⟨a, xs, e, sq, k⟩ := q1
  subst e
  cases (show v = Value.ref a from r1)
  rcases sq with sq | sq
  · obtain ⟨its, _, p, _⟩ := I1.list sq
    exact wpAny_pyIter_list p.isList (pi_one (tk := s1.toks) I1 _ (turn_list a _) ⟨_, Heap.get?_push_size _ rfl, rfl, rfl⟩ (k _ _ walk_list fun H s => s.seq sq))
  · obtain ⟨its, _, p, _⟩ := I1.tuple sq
    exact wpAny_pyIter_tuple p (pi_one (tk := s1.toks) I1 _ (turn_tuple a _) ⟨_, Heap.get?_push_size _ rfl, rfl, rfl⟩ (k _ _ walk_tup fun H s => sqT_mono s sq))
theorem Sq.len {K : PySem.W.Frag} {H : Hp} {a : Addr} {xs : List V} (h : Sq K H a xs) : LenV K (.ref a) H xs.length := h.elim (fun z => .inl ⟨_, z, rfl⟩) fun z => .inr ⟨_, z, rfl⟩
theorem Sq.ix {K : PySem.W.Frag} {H : Hp} {a : Addr} {xs : List V} {i : Int} {v : V} {Q : VK} (h : Sq K H a xs) (e : atI xs i = some v) (q : Q v H) : rIx K (.ref a) (.int i) H Q := h.elim (fun z => .inl ⟨a, xs, i, v, rfl, rfl, z, e, q⟩) fun z => .inr (.inl ⟨a, xs, i, v, rfl, rfl, z, e, q⟩)
theorem Sq.ty {K : PySem.W.Frag} {H : Hp} {a : Addr} {xs : List V} (h : Sq K H a xs) : TyX K H (.ref a) (.type "list") ∨ TyX K H (.ref a) (.type "tuple") := by
  rcases h with ((q | ⟨o, q⟩) | ⟨o, its, n, q, c, _⟩) | ((q | ⟨o, q⟩) | ⟨o, its, n, q, c, _⟩)
  · exact .inl (.base (.lst q))
  · exact .inl (.base (.frz q))
  · exact .inl (.kList q c)
  · exact .inr (.base (.tup q))
  · exact .inr (.fTuple q)
  · exact .inr (.kTuple q c)
/-- neither a list nor a tuple -/
def NoSq (K : PySem.W.Frag) (H : Hp) (v : V) : Prop := ∃ t, TyX K H v t ∧ PySem.W.kitOne K t (.type "list") = some false ∧ PySem.W.kitOne K t (.type "tuple") = some false
/-- at these addresses stand the asks of these rows -/
def AsksAt (C : Addr) (H : Hp) (ps : List Addr) (rs : List Row) : Prop := ps.length = rs.length ∧ ∀ (i : Nat) p r, ps[i]? = some p → rs[i]? = some r → AskAt C H p r
/-- the asks of the rows, in a list or a tuple -/
structure Hist (K : PySem.W.Frag) (C : Addr) (H : Hp) (a : Addr) (rs : List Row) : Prop where
  ex : ∃ ps : List Addr, Sq K H a (ps.map V.ref) ∧ AsksAt C H ps rs
theorem Hist.mono {K : PySem.W.Frag} {C : Addr} {H H' : Hp} {a : Addr} {rs : List Row} (s : Same H H') (h : Hist K C H a rs) : Hist K C H' a rs := by
  obtain ⟨ps, h1, h2, h3⟩ := h
  exact ⟨ps, Sq.mono s h1, h2, fun i p r e1 e2 => (h3 i p r e1 e2).mono s⟩
/-- whether the i-th tells what it may not -/
def badAt (rs : List Row) (i : Nat) : Bool := match rs[i]?.bind (·.t) with
  | none => false
  | some j => decide ((rs.length : Int) ≤ j) || (match rs[j.toNat]? with
    | some r => r.g
    | none => true)
def firstBad (rs : List Row) : Option Nat := (List.range rs.length).find? (badAt rs)
def spNeed (K : PySem.W.Frag) (C cB cT : Addr) : Sp := fun vs H Q E => ∃ v, vs = [v] ∧ ((NoSq K H v ∧ OutF cB [("part", .str "asks")] H E) ∨
  (∃ a xs, ∃ g : V → Bool, v = .ref a ∧ Sq K H a xs ∧ xs.length ≤ 2000 ∧ (∀ x ∈ xs, ∃ t, TyX K H x t ∧ PySem.W.kitOne K t (.ref C) = some (g x)) ∧ (∃ x ∈ xs, g x = false) ∧ OutF cB [("part", .str "asks")] H E) ∨
  ∃ a rs, v = .ref a ∧ Hist K C H a rs ∧ rs.length ≤ 2000 ∧ (∀ r ∈ rs, r.Ok) ∧ (1000 < rs.length → OutF cT [("most", .int 1000), ("what", .str "asks")] H E) ∧
    (rs.length ≤ 1000 → ∀ i, firstBad rs = some i → OutF cB [("part", .int i)] H E) ∧ (rs.length ≤ 1000 → firstBad rs = none → ∀ H', Same H H' → Q .non H'))
section
variable {P : Program} {w : World} {K : PySem.W.Frag} {mg : Str → Option Value} {base : Heap} {cB cT C : Addr}
theorem raise_int {σ : L2.St} {H : Hp} {E : XK} {p : Int} (q : OutF cB [("part", .int p)] H E) : tMkO cB (spE1 K cB "part") [] (tCons (tC (.int p)) tNil) σ H fun cls d H' => E cls d H' := by
  refine ⟨(show 1 ≤ 1000 by decide), fun a ha => ⟨a, .int p, .int p, fun _ => none, rfl, trivial, (fun _ _ z => nomatch z), (fun _ _ _ z => nomatch z), rfl, .int _, upd_same, ?_⟩⟩
  intro v' G' dx H' s1 nf' bs ga gd hdx ne s' kp ea ed dv'
  cases dv'
  refine ⟨rfl, dx, _, ea, ed, by rw [upd_ne ne] at hdx; exact hdx, q dx _ (fun b o e => ?_) upd_same⟩
  have hb : b ≠ a := ne_of_none e ha
  rw [upd_ne ne] at hdx
  rw [upd_ne (ne_of_none e hdx), del_ne hb]
  exact kp _ _ hb (by rw [upd_ne hb]; exact e)
theorem raise_many {σ : L2.St} {H : Hp} {E : XK} {x : Str} {p : Int} (q : OutF cT [("most", .int p), ("what", .str x)] H E) : tMkO cT (spE2 K cT "what" "most") [] (tCons (tC (.str x)) (tCons (tC (.int p)) tNil)) σ H fun cls d H' => E cls d H' := by
  refine ⟨(show 2 ≤ 1000 by decide), fun a ha => ⟨a, .str x, .int p, .str x, .int p, fun _ => none, rfl, trivial, trivial, (fun _ _ z => nomatch z), (fun _ _ _ z => nomatch z), rfl, .str _, .int _, upd_same, ?_⟩⟩
  intro v' u' G' dx H' s1 nf' bs ga gd hdx ne s' kp ea ed dv' du'
  cases dv'
  cases du'
  refine ⟨rfl, dx, _, ea, ed, by rw [upd_ne ne] at hdx; exact hdx, q dx _ (fun b o e => ?_) upd_same⟩
  have hb : b ≠ a := ne_of_none e ha
  rw [upd_ne ne] at hdx
  rw [upd_ne (ne_of_none e hdx), del_ne hb]
  exact kp _ _ hb (by rw [upd_ne hb]; exact e)
theorem tyOf_mono {H H' : Hp} {v : V} {t : Value} (s : Same H H') (h : TyOf K H v t) : TyOf K H' v t := by
  cases h with
  | non => exact .non
  | bl x => exact .bl x
  | int i => exact .int i
  | str x => exact .str x
  | flt x => exact .flt x
  | lst e => exact .lst (s _ _ e)
  | frz e => exact .frz (s _ _ e)
  | tup e => exact .tup (s _ _ e)
  | dK e => exact .dK (s _ _ e)
  | dT e => exact .dT (s _ _ e)
  | ins e cl ha hn htk hm => exact .ins (s _ _ e) cl ha hn htk hm
theorem tyX_mono {H H' : Hp} {v : V} {t : Value} (s : Same H H') (h : TyX K H v t) : TyX K H' v t := by
  cases h with
  | base h => exact .base (tyOf_mono s h)
  | byt b => exact .byt b
  | set e => exact .set (s _ _ e)
  | kList e c => exact .kList e c
  | kTuple e c => exact .kTuple e c
  | kDict e c => exact .kDict e c
  | fTuple e => exact .fTuple (s _ _ e)
  | fDict e => exact .fDict (s _ _ e)
theorem any2 {t : Value} (k1 : PySem.W.kitOne K t (.type "list") = some false) (k2 : PySem.W.kitOne K t (.type "tuple") = some false) : PySem.W.kitAny K t [.type "list", .type "tuple"] = some false := by
  simp only [PySem.W.kitAny, k1, k2]
theorem anyS {H : Hp} {a : Addr} {xs : List V} (h : Sq K H a xs) : ∃ t, TyX K H (.ref a) t ∧ PySem.W.kitAny K t [.type "list", .type "tuple"] = some true := by
  have k1 : PySem.W.kitOne K (.type "list") (.type "list") = some true := kit_ty (by decide +kernel)
  have k2 : PySem.W.kitOne K (.type "tuple") (.type "list") = some false := kit_ty (by decide +kernel)
  have k3 : PySem.W.kitOne K (.type "tuple") (.type "tuple") = some true := kit_ty (by decide +kernel)
  rcases h.ty with z | z
  · exact ⟨_, z, by simp only [PySem.W.kitAny, k1]⟩
  · exact ⟨_, z, by simp only [PySem.W.kitAny, k2, k3]⟩
theorem Hist.sq {H : Hp} {a : Addr} {rs : List Row} (h : Hist K C H a rs) : ∃ ps : List Addr, Sq K H a (ps.map V.ref) ∧ AsksAt C H ps rs := h.ex
theorem scNeed : FnScope ["asks", "ask", "at", "told"] ["asks"] (defScope sNeed) := ⟨rfl, rfl, rfl, by decide +kernel, rfl, by decide +kernel, by decide +kernel⟩
theorem ok_need {f : Addr} {fd : FuncData} (F : Fun K "need_asks" "need_asks" sNeed f fd) (A : AskC K mg C) (T : B1 mg) (hm : ∃ t, mg "MOST_ASKS" = some (.int 1000 t)) (M : Mk1 P w K mg base "BadAsk" cB "part" "part") (M2 : Mk2 P w K mg base "TooMany" cT "what" "most" "what" "most") :
    FnOk P w K mg base (L2.CX P w) 7 f fd ["asks"] (spNeed K C cB cT) := by
  obtain ⟨fR, dR, ER, FR, bR, _⟩ := M.has
  obtain ⟨fR2, dR2, ER2, FR2, bR2, _⟩ := M2.has
  obtain ⟨tk, hm⟩ := hm
  refine F.okX scNeed (fun vs H Q E h => ?_) (fun cdv A' outer s H vs Q E hr h => ?_)
  · obtain ⟨v, rfl, _⟩ := h
    rfl
  · obtain ⟨v, rfl, h⟩ := h
    refine ⟨_, (pss_cons (ps_if (PW.pt (pw_or (pt_not (pt_val (pe_callB call_isiT (by rfl) T.isi (by decide +kernel) (pa_cons (pv 0) (pa_cons (pe_tup (pa_cons (pe_bltn (v := .ty "list") (by rfl) T.list (by decide +kernel) rfl) (pa_cons (pe_bltn (v := .ty "tuple") (by rfl) T.tuple (by decide +kernel) rfl) pa_nil))) pa_nil))))) (pw_or1 (pt_not (pt_val (pe_callB (cr_all rfl) (by rfl) T.all (by decide +kernel) (pa_cons (pe_lc (own := [("ask", 1)]) (g := gName 1) (tt := tYes) (by rfl) scNeed.nd (pi_sq (pv 0)) (blkOk_by (own := [("ask", 1)]) (N := ["asks", "ask", "at", "told"]) (sc := defScope sNeed) (by decide +kernel)) (fun _ _ _ _ _ => pg_name (i := 1) scNeed.nd rfl (Or.inl rfl)) (fun _ _ _ _ _ => pts_nil) (fun _ _ _ _ _ => pe_callB (call_isiQ K) (by rfl) T.isi (by decide +kernel) (pa_cons (pv 1) (pa_cons (pe_glob (v := .ref C) (by rfl) A.mg rfl) pa_nil)))) pa_nil)))))))
(pss_one (ps_raise rfl (takes_of rfl rfl rfl rfl) (pmk_oex ER.ox ER.ini ER.ti FR hr bR .nil pass0 (by rfl) ER.gl (pa_cons pe_str pa_nil))))
pss_nil)
(pss_cons (ps_if (pt_cmpR op_gt (pe_callB call_len (by rfl) T.len PySem.boot_len (pa_cons (pv 0) pa_nil)) (pe_glob (v := .int 1000) (by rfl) hm ⟨_, rfl⟩) (nomark _))
(pss_one (ps_raise rfl (takes_of rfl rfl rfl rfl) (pmk_oex ER2.ox ER2.ini ER2.ti FR2 hr bR2 .nil pass0 (by rfl) ER2.gl (pa_cons pe_str (pa_cons (pe_glob (v := .int 1000) (by rfl) hm ⟨_, rfl⟩) pa_nil)))))
pss_nil)
(pss_one (ps_for (passes_of rfl) rfl (pi_range1 (by rfl) T.range (pa_cons (pe_callB call_len (by rfl) T.len PySem.boot_len (pa_cons (pv 0) pa_nil)) pa_nil)) (pg_name (i := 2) scNeed.nd rfl (Or.inl rfl))
(pss_cons (ps_set (i := 3) scNeed.nd rfl (Or.inl rfl) (pe_fldK K (pe_ix (ix_seqK K) (pv 0) (pv 2) (fun _ _ => rfl)) rfl))
(pss_one (ps_if (PW.pt (pw_and (pt_cmpR op_notN (pv 3) pe_non (nomark _)) (pw_and1 (PW.pt (pw_or (pt_cmpR op_ge (pv 3) (pe_callB call_len (by rfl) T.len PySem.boot_len (pa_cons (pv 0) pa_nil)) (nomark _)) (pw_or1 (pt_cmpR op_ne (pe_fldK K (pe_ix (ix_seqK K) (pv 0) (pv 3) (fun _ _ => rfl)) rfl) pe_str (nomark _))))))))
(pss_one (ps_raise rfl (takes_of rfl rfl rfl rfl) (pmk_oex ER.ox ER.ini ER.ti FR hr bR .nil pass0 (by rfl) ER.gl (pa_cons (pv 2) pa_nil))))
pss_nil))))))), ?_⟩
    rcases h with ⟨⟨t, ty, k1, k2⟩, q⟩ | h
    · exact ⟨v, rfl, (by show 2 ≤ sizeLine; decide), fun tp htp => ⟨v, tp, [.ty "list", .ty "tuple"], t, [.type "list", .type "tuple"], false, rfl, upd_same, .cons (.ty _) (.cons (.ty _) .nil), tyX_mono (same_new htp) ty, any2 k1 k2, false, rfl, iteT' (iteT' (raise_str (q.at (same_new htp))))⟩⟩
    obtain ⟨a, xs, g, rfl, sq, hl, hg, rest⟩ : ∃ a xs, ∃ g : V → Bool, v = .ref a ∧ Sq K H a xs ∧ xs.length ≤ 2000 ∧ (∀ x ∈ xs, ∃ t, TyX K H x t ∧ PySem.W.kitOne K t (.ref C) = some (g x)) ∧
        (((xs.map g).all id = false ∧ OutF cB [("part", .str "asks")] H E) ∨ ((xs.map g).all id = true ∧ ∃ rs ps, xs = ps.map V.ref ∧ AsksAt C H ps rs ∧ (∀ r ∈ rs, r.Ok) ∧ (1000 < rs.length → OutF cT [("most", .int 1000), ("what", .str "asks")] H E) ∧
          (rs.length ≤ 1000 → ∀ i, firstBad rs = some i → OutF cB [("part", .int i)] H E) ∧ (rs.length ≤ 1000 → firstBad rs = none → ∀ H', Same H H' → Q .non H'))) := by
      rcases h with ⟨a, xs, g, rfl, sq, hl, hx, ⟨z, hz, nz⟩, q⟩ | ⟨a, rs, rfl, hh, hl, ok, q1, q2, q3⟩
      · exact ⟨a, xs, g, rfl, sq, hl, hx, .inl ⟨List.all_eq_false.mpr ⟨g z, List.mem_map.mpr ⟨z, hz, rfl⟩, by rw [nz]; exact fun k => nomatch k⟩, q⟩⟩
      · obtain ⟨ps, h1, h2⟩ := hh.sq
        refine ⟨a, ps.map V.ref, fun _ => true, rfl, h1, by rw [List.length_map, h2.1]; exact hl, fun x m => ?_, .inr ⟨by simp, rs, ps, rfl, h2, ok, q1, q2, q3⟩⟩
        obtain ⟨p, mp, rfl⟩ := List.mem_map.mp m
        obtain ⟨i, hi, e⟩ := List.mem_iff_getElem.mp mp
        have hi2 : i < rs.length := by rw [← h2.1]; exact hi
        obtain ⟨dx, e2⟩ := h2.2 i p rs[i] (by rw [← e]; exact List.getElem?_eq_getElem hi) (List.getElem?_eq_getElem hi2)
        exact ⟨_, .base (A.ty H p dx _ e2), A.me⟩
    refine ⟨.ref a, rfl, (by show 2 ≤ sizeLine; decide), fun tp htp => ?_⟩
    have s1 := same_new (o := .tup [V.ty "list", V.ty "tuple"]) htp
    have sq1 := Sq.mono s1 sq
    obtain ⟨t, ty, ka⟩ := anyS sq1
    refine ⟨.ref a, tp, [.ty "list", .ty "tuple"], t, [.type "list", .type "tuple"], true, rfl, upd_same, .cons (.ty _) (.cons (.ty _) .nil), ty, ka, true, rfl, iteF' ?_⟩
    have hg1 : ∀ x ∈ xs, ∃ t, TyX K (upd H tp (.tup [V.ty "list", V.ty "tuple"])) x t ∧ PySem.W.kitOne K t (.ref C) = some (g x) := fun x m => let ⟨t, h1, h2⟩ := hg x m; ⟨t, tyX_mono s1 h1, h2⟩
    generalize upd H tp (.tup [V.ty "list", V.ty "tuple"]) = H1 at s1 sq1 hg1 ⊢
    refine ⟨.ref a, rfl, a, xs, rfl, sq1, fun J G wk hG D hD => lc_it wk (fun i H' => H' = upd H1 D (.lst ((xs.take i).map fun x => V.bl (g x)))) (by simp) (fun i H' _ e => hG _ (by rw [e]; exact same_new hD)) ?_ ?_⟩
    · rintro i x H2 H3 hi rfl ⟨rfl, hx⟩
      obtain ⟨t, ty, k⟩ := hg1 x (List.mem_of_getElem? hx)
      refine ⟨rfl, yes_go ⟨x, rfl, x, .ref C, t, .ref C, g x, rfl, .own _, tyX_mono (same_new hD) ty, k, _, upd_same, ?_, ?_⟩⟩
      · rw [List.length_map, List.length_take]
        exact Nat.lt_of_le_of_lt (Nat.min_le_right _ _) (Nat.lt_of_le_of_lt hl (by decide))
      · rw [upd_upd, List.take_add_one, hx, List.map_append]
        rfl
    · rintro H2 rfl
      refine ⟨D, xs.map g, rfl, SqL.of (by rw [upd_same, List.take_of_length_le (Nat.le_refl _), List.map_map]; rfl), (xs.map g).all id, rfl, ?_⟩
      have s2 := s1.trans (same_new (o := .lst ((xs.take xs.length).map fun x => V.bl (g x))) hD)
      have sq2 := Sq.mono (same_new (o := .lst ((xs.take xs.length).map fun x => V.bl (g x))) hD) sq1
      generalize upd H1 D _ = H2 at s2 sq2 ⊢
      rcases rest with ⟨af, q⟩ | ⟨at_, rs, ps, rfl, h2, ok, q1, q2, q3⟩
      · rw [af]
        exact iteT' (raise_str (q.at s2))
      · rw [at_]
        have nl : rs.length = (ps.map V.ref).length := by rw [List.length_map, h2.1]
        refine iteF' ⟨.ref a, rfl, .ref a, (ps.map V.ref).length, rfl, sq2.len, ((ps.map V.ref).length : Int), 1000, rfl, rfl, decide ((1000 : Int) < ((ps.map V.ref).length : Int)), rfl, ?_⟩
        by_cases big : 1000 < rs.length
        · rw [decide_eq_true (show (1000 : Int) < ((ps.map V.ref).length : Int) by omega)]
          exact iteT' (raise_many ((q1 big).at s2))
        · rw [decide_eq_false (show ¬ (1000 : Int) < ((ps.map V.ref).length : Int) by omega)]
          refine iteF' ?_
          have le : rs.length ≤ 1000 := by omega
          refine ⟨.ref a, rfl, .ref a, (ps.map V.ref).length, rfl, sq2.len, ((ps.map V.ref).length : Nat), rfl, by omega, by rw [← nl]; omega, for_range (n := (ps.map V.ref).length) (fun i σ H' => H' = H2 ∧ ∃ x y, σ = [some (.ref a), none, x, y] ∧ ∀ j, j < i → badAt rs j = false) ⟨rfl, none, none, rfl, fun j hj => by omega⟩ ?_ ?_⟩
          · rintro i σ H3 hi ⟨rfl, x, y, rfl, old⟩
            have hi2 : i < rs.length := by omega
            have hip : i < ps.length := by rw [List.length_map] at hi; exact hi
            obtain ⟨dx, ea⟩ := (h2.2 i ps[i] rs[i] (List.getElem?_eq_getElem hip) (List.getElem?_eq_getElem hi2)).mono s2
            have at1 : atI (ps.map V.ref) (0 + (i : Int)) = some (.ref ps[i]) := by
              rw [Int.zero_add]
              exact at_nat (by rw [List.getElem?_map, List.getElem?_eq_getElem hip]; rfl)
            refine ⟨.ref a, rfl, .int (0 + (i : Int)), rfl, Sq.ix sq2 at1 ⟨ps[i], C, dx, flds rs[i], oV rs[i].t, rfl, ea, A.cl, A.nt, rfl, ?_⟩⟩
            have bd : badAt rs i = (match rs[i].t with
              | none => false
              | some j => decide ((rs.length : Int) ≤ j) || (match rs[j.toNat]? with
                | some r => r.g
                | none => true)) := by
              unfold badAt
              rw [List.getElem?_eq_getElem hi2]
              rfl
            have hit : badAt rs i = true → firstBad rs = some i := fun z => by
              unfold firstBad
              rw [List.find?_range_eq_some]
              exact ⟨z, by simpa using hi2, fun j hj => by rw [old j hj]; rfl⟩
            have out : badAt rs i = true → OutF cB [("part", .int (0 + (i : Int)))] H3 E := fun z => by
              rw [Int.zero_add]
              exact (q2 le i (hit z)).at s2
            have on : badAt rs i = false → ∀ j, j < i + 1 → badAt rs j = false := fun z j hj => by
              by_cases e : j = i
              · rw [e]; exact z
              · exact old j (by omega)
            cases ht : rs[i].t with
            | none =>
              rw [ht] at bd
              dsimp only at bd
              exact ⟨.non, rfl, rfl, false, rfl, iteF' (iteF' ⟨rfl, _, _, rfl, on bd⟩)⟩
            | some j =>
              rw [ht] at bd
              dsimp only at bd
              obtain ⟨n, rfl⟩ : ∃ n : Nat, j = (n : Int) := Int.eq_ofNat_of_zero_le ((ok rs[i] (List.getElem_mem hi2)).tg j ht).2.2
              have bd : badAt rs i = (decide ((rs.length : Int) ≤ (n : Int)) || (match rs[n]? with
                | some r => r.g
                | none => true)) := bd
              refine ⟨.int n, rfl, rfl, true, rfl, iteT' ⟨.int n, rfl, .ref a, rfl, .ref a, (ps.map V.ref).length, rfl, sq2.len, (n : Int), ((ps.map V.ref).length : Int), rfl, rfl, decide (((ps.map V.ref).length : Int) ≤ (n : Int)), rfl, ?_⟩⟩
              rw [← nl]
              by_cases far : (rs.length : Int) ≤ (n : Int)
              · rw [decide_eq_true far] at bd ⊢
                exact iteT' (iteT' ⟨_, rfl, raise_int (σ := []) (out (by rw [bd]; rfl))⟩)
              · rw [decide_eq_false far] at bd ⊢
                have jl : n < rs.length := by omega
                have jp : n < ps.length := by rw [h2.1]; exact jl
                obtain ⟨dy, ej⟩ := (h2.2 n ps[n] rs[n] (List.getElem?_eq_getElem jp) (List.getElem?_eq_getElem jl)).mono s2
                have at2 : atI (ps.map V.ref) (n : Int) = some (.ref ps[n]) := at_nat (by rw [List.getElem?_map, List.getElem?_eq_getElem jp]; rfl)
                rw [List.getElem?_eq_getElem jl] at bd
                have bd : badAt rs i = rs[n].g := bd
                refine iteF' ⟨.ref a, rfl, .int n, rfl, Sq.ix sq2 at2 ⟨ps[n], C, dy, flds rs[n], .str (wd rs[n].g), rfl, ej, A.cl, A.nw, rfl, rfl, rs[n].g, ?_, ?_⟩⟩
                · cases rs[n].g <;> decide +kernel
                · cases hg : rs[n].g with
                  | true => exact iteT' ⟨_, rfl, raise_int (σ := []) (out (bd.trans hg))⟩
                  | false => exact iteF' ⟨rfl, _, _, rfl, on (bd.trans hg)⟩
          · rintro σ H3 ⟨rfl, x, y, rfl, old⟩
            refine q3 le ?_ _ s2
            unfold firstBad
            rw [List.find?_range_eq_none]
            exact fun j hj => by rw [old j (by omega)]; rfl
end
end K34
end

section
set_option Elab.async false
set_option linter.all false
set_option maxRecDepth 100000
set_option maxHeartbeats 4000000
/-! the asks that play a part -/
namespace K34
open PySem L2 KZ
abbrev sTold : Stmt := top 18
abbrev sParts : Stmt := top 19
abbrev sPartsD : Stmt := top 13
def tNInP (P : Program) (w : World) (ty td : TE) : TE := fun σ H Q => ty σ H fun y H1 => td σ H1 fun x H2 => ∃ a kvs k, x = .ref a ∧ Rd H2 a (DN P w a kvs) ∧ y = nV k ∧ Q (.bl (valV kvs k).isSome) H2
theorem pc_ninK {X : Cx} {i o : Expr} {ty td : TE} (P : Program) (w : World) (hi : PE X i ty) (ho : PE X o td) (hP : X.prog = P := by rfl) (hw : X.w = w := by rfl) : PC X .In i o (tNInP P w ty td) := by
  subst hP hw
  exact pc_nin hi ho
/-- a walk that fills such a dict -/
theorem dn_it {X : Cx} {J : It} {n : Nat} {Gd : Hp → Prop} {Y : Nat → Hp → V → Hp → Prop} (wk : Walk J n Gd Y) {g : TG} {tt : TT} {tk tv : TE} {vs : List Nat} {σ : L2.St} {H1 : Hp} {D : Addr} {Qd : Hp → Prop} (Pv : Nat → Hp → Prop) (h0 : Pv 0 (upd H1 D (DN X.prog X.w D []))) (hG : ∀ i H, i ≤ n → Pv i H → Gd H)
    (hs : ∀ i x H H', i < n → Pv i H → Y i H x H' → g x (wipe σ vs) H' fun σ2 H2 => wipe σ2 vs = wipe σ vs ∧ tNTurn X D tt tk tv (Pv (i + 1)) σ2 H2) (hd : ∀ H, Pv n H → Qd H) :
    ∃ W : Nat → Nat → Hp → Prop, (∃ m, W 0 m (upd H1 D (DN X.prog X.w D []))) ∧ ∀ i m H, W i m H → (J.stop i H ∧ Qd H) ∨
      (J.go i H ∧ ∃ Nx : Hp → Prop, (∀ H', Nx H' → ∃ m', m' < m ∧ W (i + 1) m' H') ∧ ∀ x H', J.yld i H x H' → g x (wipe σ vs) H' fun σ2 H2 => wipe σ2 vs = wipe σ vs ∧ tNTurn X D tt tk tv Nx σ2 H2) := by
  refine ⟨fun i m H => m = n - i ∧ i ≤ n ∧ Pv i H, ⟨n, by simp, Nat.zero_le _, h0⟩, ?_⟩
  rintro i m H ⟨rfl, hi, p⟩
  have q := hG i H hi p
  by_cases hlt : i < n
  · exact .inr ⟨wk.goes i H hlt q, Pv (i + 1), fun H' p' => ⟨n - (i + 1), by omega, rfl, hlt, p'⟩, fun x H' y => hs i x H H' hlt p (wk.yields i H x H' hlt q y)⟩
  · have e : i = n := by omega
    subst e
    exact .inl ⟨wk.stops H q, hd H p⟩
def nk : Option Int → NK
  | none => none
  | some i => some (.inl i)
theorem nk_inj {o u : Option Int} (h : nk o = nk u) : o = u := by
  cases o <;> cases u <;> first | rfl | (cases h; done) | (cases h; rfl)
theorem nk_v (o : Option Int) : nV (nk o) = oV o := by cases o <;> rfl
/-- a get that has ended -/
def tells (r : Row) : Bool := r.g && r.e.isSome
def toldKvs (rs : List Row) : List (NK × V) := rs.foldl (fun kvs r => if tells r = true then putK kvs (nk r.t) (.bl true) else kvs) []
def isTold (rs : List Row) (o : Option Int) : Bool := rs.any fun r => tells r && decide (r.t = o)
theorem told_val : ∀ (rs : List Row) (kvs : List (NK × V)) (o : Option Int), (valV (rs.foldl (fun kvs r => if tells r = true then putK kvs (nk r.t) (.bl true) else kvs) kvs) (nk o)).isSome = ((valV kvs (nk o)).isSome || isTold rs o)
  | [], kvs, o => by simp [isTold]
  | r :: rs, kvs, o => by
    rw [List.foldl_cons, told_val rs]
    have e : isTold (r :: rs) o = (tells r && decide (r.t = o) || isTold rs o) := rfl
    rw [e]
    cases t : tells r with
    | false => simp
    | true =>
      rw [if_pos rfl, valV_put]
      by_cases h : r.t = o
      · rw [if_pos (by rw [h])]
        simp [h]
      · rw [if_neg (fun z => h (nk_inj z).symm)]
        simp [h]
theorem told_in (rs : List Row) (o : Option Int) : (valV (toldKvs rs) (nk o)).isSome = isTold rs o := by
  unfold toldKvs
  rw [told_val]
  simp [valV_nil]
theorem told_len : ∀ (rs : List Row) (kvs : List (NK × V)), (rs.foldl (fun kvs r => if tells r = true then putK kvs (nk r.t) (.bl true) else kvs) kvs).length ≤ kvs.length + rs.length
  | [], kvs => by simp
  | r :: rs, kvs => by
    rw [List.foldl_cons]
    refine Nat.le_trans (told_len rs _) ?_
    rw [List.length_cons]
    split
    · have := length_putK kvs (nk r.t) (.bl true)
      omega
    · omega
def spTold (K : PySem.W.Frag) (P : Program) (w : World) (C : Addr) : Sp := fun vs H Q _ => ∃ a rs, vs = [.ref a] ∧ Hist K C H a rs ∧ rs.length ≤ 2000 ∧ ∀ D, H D = none → Q (.ref D) (upd H D (DN P w D (toldKvs rs)))
section
variable {P : Program} {w : World} {K : PySem.W.Frag} {mg : Str → Option Value} {base : Heap} {C : Addr}
theorem scTold : FnScope ["asks", "ask"] ["asks"] (defScope sTold) := ⟨rfl, rfl, rfl, by decide +kernel, rfl, by decide +kernel, by decide +kernel⟩
theorem ok_told {f : Addr} {fd : FuncData} (F : Fun K "told_lots" "told_lots" sTold f fd) (A : AskC K mg C) (T : B1 mg) : FnOk P w K mg base CX0 1 f fd ["asks"] (spTold K P w C) := by
  refine F.ok scTold (fun vs H Q E h => ?_) (fun cdv A' outer s H vs Q E hr h => ?_)
  · obtain ⟨a, rs, rfl, _⟩ := h
    rfl
  · obtain ⟨a, rs, rfl, hh, hl, q⟩ := h
    refine ⟨_, (pss_one (ps_ret (pe_dcN (own := [("ask", 1)]) (g := gName 1) (by rfl) scTold.nd (pi_sq (pv 0)) (blkOk_by (own := [("ask", 1)]) (N := ["asks", "ask"]) (sc := defScope sTold) (by decide +kernel)) (fun _ _ _ _ _ => pg_name (i := 1) scTold.nd rfl (Or.inl rfl)) (fun _ _ _ _ _ => pts_one (PW.pt (pw_and (pt_cmpR op_eq (pe_fldK K (pv 1) rfl) pe_str (nomark _)) (pw_and1 (pt_cmpR op_notN (pe_fldK K (pv 1) rfl) pe_non (nomark _)))))) (fun _ _ _ _ _ => pe_fldK K (pv 1) rfl) (fun _ _ _ _ _ => pe_bl)))), ?_⟩
    obtain ⟨ps, sq, h2⟩ := hh.sq
    have nl : (ps.map V.ref).length = rs.length := by rw [List.length_map, h2.1]
    refine ⟨.ref a, rfl, a, ps.map V.ref, rfl, sq, fun J G wk hG D hD => dn_it wk (fun i H' => H' = upd H D (DN P w D (toldKvs (rs.take i)))) rfl (fun i H' _ e => hG _ (by rw [e]; exact same_new hD)) ?_ ?_⟩
    · rintro i x H2 H3 hi rfl ⟨rfl, hx⟩
      have hi2 : i < rs.length := by omega
      have hip : i < ps.length := by rw [h2.1]; exact hi2
      have ex : x = .ref ps[i] := by
        rw [List.getElem?_map, List.getElem?_eq_getElem hip] at hx
        exact (Option.some.inj hx).symm
      subst ex
      have tk : toldKvs (rs.take (i + 1)) = if tells rs[i] = true then putK (toldKvs (rs.take i)) (nk rs[i].t) (.bl true) else toldKvs (rs.take i) := by
        unfold toldKvs
        rw [List.take_add_one, List.getElem?_eq_getElem hi2, List.foldl_append]
        rfl
      have kl : (toldKvs (rs.take i)).length < sizeLine := by
        have := told_len (rs.take i) []
        have z : (rs.take i).length ≤ 2000 := by rw [List.length_take]; omega
        exact Nat.lt_of_le_of_lt (Nat.le_trans this (by simpa using z)) (by decide)
      obtain ⟨dx, ea⟩ := ((h2.2 i ps[i] rs[i] (List.getElem?_eq_getElem hip) (List.getElem?_eq_getElem hi2)).mono (same_new (o := DN P w D (toldKvs (rs.take i))) hD))
      generalize rs[i] = r at tk ea
      refine ⟨rfl, ?_⟩
      refine ⟨.ref ps[i], rfl, ps[i], C, dx, flds r, .str (wd r.g), rfl, ea, A.cl, A.nw, rfl, rfl, r.g, (by cases r.g <;> decide +kernel), ?_⟩
      cases hg : r.g with
      | false =>
        refine iteF' (iteF' ?_)
        rw [tk, if_neg (by unfold tells; rw [hg]; exact fun z => nomatch z)]
      | true =>
        refine iteT' ⟨.ref ps[i], rfl, ps[i], C, dx, flds r, oV r.e, rfl, ea, A.cl, A.ne, rfl, rfl, r.e.isSome, (by cases r.e <;> rfl), ?_⟩
        have te : tells r = r.e.isSome := by unfold tells; rw [hg]; rfl
        cases he : r.e.isSome with
        | false =>
          refine iteF' ?_
          rw [tk, if_neg (by rw [te, he]; exact fun z => nomatch z)]
        | true =>
          refine iteT' ⟨.ref ps[i], rfl, ps[i], C, dx, flds r, oV r.t, rfl, ea, A.cl, A.nt, rfl, _, nk r.t, (nk_v r.t).symm, upd_same, kl, ?_⟩
          rw [upd_upd, tk, if_pos (te.trans he)]
          rfl
    · rintro H2 rfl
      rw [nl, List.take_of_length_le (Nat.le_refl _)]
      exact q D hD
end
def isPart (rs : List Row) (i : Nat) : Bool := match rs[i]? with
  | some r => r.e.isSome || (!r.g && isTold rs (some (i : Int)))
  | none => false
def partsOf (rs : List Row) : List Nat := (List.range rs.length).filter (isPart rs)
def nats (l : List Nat) : List V := l.map fun (i : Nat) => V.int (i : Int)
def spParts (K : PySem.W.Frag) (C : Addr) : Sp := fun vs H Q _ => ∃ a rs, vs = [.ref a] ∧ Hist K C H a rs ∧ rs.length ≤ 2000 ∧ ∀ D H', Same H H' → H D = none → H' D = some (.lst (nats (partsOf rs))) → Q (.ref D) H'
section
variable {P : Program} {w : World} {K : PySem.W.Frag} {mg : Str → Option Value} {base : Heap} {fT fN fP C cB cT : Addr} {dT dN dP : FuncData}
theorem scParts : FnScope ["asks", "told", "at"] ["asks"] (defScope sParts) := ⟨rfl, rfl, rfl, by decide +kernel, rfl, by decide +kernel, by decide +kernel⟩
theorem ok_parts_of {f : Addr} {fd : FuncData} (F : Fun K "parts_of" "parts_of" sParts f fd) (A : AskC K mg C) (T : B1 mg) (gT : mg "told_lots" = some (.ref fT)) (FT : Fun K "told_lots" "told_lots" sTold fT dT) (bT : Binds K dT ["asks"] []) :
    FnOk P w K mg base CX0 2 f fd ["asks"] (spParts K C) := by
  have GT : FnOk P w K mg base CX0 1 fT dT ["asks"] (spTold K P w C) := ok_told FT A T
  refine F.ok scParts (fun vs H Q E h => ?_) (fun cdv A' outer s H vs Q E hr h => ?_)
  · obtain ⟨a, rs, rfl, _⟩ := h
    rfl
  · obtain ⟨a, rs, rfl, hh, hl, q⟩ := h
    have hr1 : Room 1 _ := hr.mono (by decide)
    refine ⟨_, (pss_cons (ps_set (i := 1) scParts.nd rfl (Or.inr rfl) (pe_call GT hr1 (by rfl) gT FT.kp bT .nil pass0 (pa_cons (pv 0) pa_nil)))
(pss_one (ps_ret (pe_lc (own := [("at", 2)]) (g := gName 2) (by rfl) scParts.nd (pi_range1 (by rfl) T.range (pa_cons (pe_callB call_len (by rfl) T.len PySem.boot_len (pa_cons (pv 0) pa_nil)) pa_nil)) (blkOk_by (own := [("at", 2)]) (N := ["asks", "told", "at"]) (sc := defScope sParts) (by decide +kernel)) (fun _ _ _ _ _ => pg_name (i := 2) scParts.nd rfl (Or.inl rfl)) (fun _ _ _ _ _ => pts_one (PW.pt (pw_or (pt_cmpR op_notN (pe_fldK K (pe_ix (ix_seqK K) (pv 0) (pv 2) (fun _ _ => rfl)) rfl) pe_non (nomark _)) (pw_or1 (PW.pt (pw_and (pt_cmpR op_eq (pe_fldK K (pe_ix (ix_seqK K) (pv 0) (pv 2) (fun _ _ => rfl)) rfl) pe_str (nomark _)) (pw_and1 (pt_cmp (pc_ninK P w (pv 2) (pv 1)))))))))) (fun _ _ _ _ _ => pv 2))))), ?_⟩
    refine ⟨.ref a, rfl, a, rs, rfl, hh, hl, fun d hd => ?_⟩
    have s1 := same_new (o := DN P w d (toldKvs rs)) hd
    have h1 := hh.mono s1
    have hk : (upd H d (DN P w d (toldKvs rs))) d = some (DN P w d (toldKvs rs)) := upd_same
    generalize upd H d (DN P w d (toldKvs rs)) = H1 at s1 h1 hk ⊢
    obtain ⟨ps, sq, h2⟩ := h1.sq
    have nl : (ps.map V.ref).length = rs.length := by rw [List.length_map, h2.1]
    refine ⟨.ref a, rfl, .ref a, (ps.map V.ref).length, rfl, sq.len, ((ps.map V.ref).length : Nat), rfl, by omega, by rw [nl]; omega, fun D hD => ?_⟩
    rw [Int.toNat_natCast, nl]
    refine lc_it (walk_range (lo := 0) (n := rs.length)) (fun i H' => H' = upd H1 D (.lst (nats ((List.range i).filter (isPart rs))))) rfl (fun _ _ _ _ => True.intro) ?_ ?_
    · rintro i x H2 H3 hi rfl ⟨rfl, rfl⟩
      have hip : i < ps.length := by rw [h2.1]; exact hi
      obtain ⟨dx, ea⟩ := ((h2.2 i ps[i] rs[i] (List.getElem?_eq_getElem hip) (List.getElem?_eq_getElem hi)).mono (same_new (o := .lst (nats ((List.range i).filter (isPart rs)))) hD))
      have sq2 := Sq.mono (same_new (o := .lst (nats ((List.range i).filter (isPart rs)))) hD) sq
      have hk2 := (same_new (o := .lst (nats ((List.range i).filter (isPart rs)))) hD) _ _ hk
      have at1 : atI (ps.map V.ref) (0 + (i : Int)) = some (.ref ps[i]) := by
        rw [Int.zero_add]
        exact at_nat (by rw [List.getElem?_map, List.getElem?_eq_getElem hip]; rfl)
      have ip : isPart rs i = (rs[i].e.isSome || (!rs[i].g && isTold rs (some (i : Int)))) := by
        unfold isPart
        rw [List.getElem?_eq_getElem hi]
      have nx : nats ((List.range (i + 1)).filter (isPart rs)) = if isPart rs i = true then nats ((List.range i).filter (isPart rs)) ++ [V.int (i : Int)] else nats ((List.range i).filter (isPart rs)) := by
        rw [List.range_succ, List.filter_append]
        cases c : isPart rs i with
        | true => rw [if_pos rfl]; simp [nats, c]
        | false => rw [if_neg (by decide)]; simp [c]
      have al : (nats ((List.range i).filter (isPart rs))).length < sizeLine := by
        have : (nats ((List.range i).filter (isPart rs))).length ≤ i := by
          unfold nats
          rw [List.length_map]
          exact Nat.le_trans (List.length_filter_le _ _) (by simp)
        exact Nat.lt_of_le_of_lt this (Nat.lt_of_lt_of_le (Nat.lt_of_lt_of_le hi hl) (by decide))
      have inT : (valV (toldKvs rs) (some (.inl (0 + (i : Int))))).isSome = isTold rs (some (i : Int)) := by
        rw [Int.zero_add]
        exact told_in rs (some (i : Int))
      generalize rs[i] = r at ip ea
      have isY : isPart rs i = true → upd (upd H1 D (.lst (nats ((List.range i).filter (isPart rs))))) D (.lst (nats ((List.range i).filter (isPart rs)) ++ [V.int (0 + (i : Int))])) = upd H1 D (.lst (nats ((List.range (i + 1)).filter (isPart rs)))) := fun z => by
        rw [upd_upd, nx, if_pos z, Int.zero_add]
      have isN : isPart rs i = false → upd H1 D (.lst (nats ((List.range i).filter (isPart rs)))) = upd H1 D (.lst (nats ((List.range (i + 1)).filter (isPart rs)))) := fun z => by
        rw [nx, if_neg (by rw [z]; decide)]
      refine ⟨rfl, ?_⟩
      refine ⟨.ref a, rfl, .int (0 + (i : Int)), rfl, Sq.ix sq2 at1 ⟨ps[i], C, dx, flds r, oV r.e, rfl, ea, A.cl, A.ne, rfl, rfl, r.e.isSome, (by cases r.e <;> rfl), ?_⟩⟩
      cases he : r.e.isSome with
      | true => exact iteT' (iteT' ⟨_, rfl, _, upd_same, al, isY (by rw [ip, he]; rfl)⟩)
      | false =>
        rw [he, Bool.false_or] at ip
        refine iteF' ⟨.ref a, rfl, .int (0 + (i : Int)), rfl, Sq.ix sq2 at1 ⟨ps[i], C, dx, flds r, .str (wd r.g), rfl, ea, A.cl, A.nw, rfl, rfl, !r.g, (by cases r.g <;> decide +kernel), ?_⟩⟩
        cases hg : r.g with
        | true =>
          rw [hg] at ip
          exact iteF' (iteF' (isN ip))
        | false =>
          rw [hg] at ip
          refine iteT' ⟨_, rfl, .ref d, rfl, d, toldKvs rs, some (.inl (0 + (i : Int))), rfl, .inl hk2, rfl, isTold rs (some (i : Int)), by rw [inT], ?_⟩
          cases ht : isTold rs (some (i : Int)) with
          | true => exact iteT' ⟨_, rfl, _, upd_same, al, isY (ip.trans ht)⟩
          | false => exact iteF' (isN (ip.trans ht))
    · rintro H2 rfl
      exact q D _ (s1.trans (same_new hD)) (s1.free hD) upd_same
/-- what refuses a history, or lets it go on -/
def Looked (K : PySem.W.Frag) (C cB cT : Addr) (v : V) (H : Hp) (E : XK) (go : Addr → List Row → Prop) : Prop := (NoSq K H v ∧ OutF cB [("part", .str "asks")] H E) ∨
  (∃ a xs, ∃ g : V → Bool, v = .ref a ∧ Sq K H a xs ∧ xs.length ≤ 2000 ∧ (∀ x ∈ xs, ∃ t, TyX K H x t ∧ PySem.W.kitOne K t (.ref C) = some (g x)) ∧ (∃ x ∈ xs, g x = false) ∧ OutF cB [("part", .str "asks")] H E) ∨
  ∃ a rs, v = .ref a ∧ Hist K C H a rs ∧ rs.length ≤ 2000 ∧ (∀ r ∈ rs, r.Ok) ∧ (1000 < rs.length → OutF cT [("most", .int 1000), ("what", .str "asks")] H E) ∧
    (rs.length ≤ 1000 → ∀ i, firstBad rs = some i → OutF cB [("part", .int i)] H E) ∧ (rs.length ≤ 1000 → firstBad rs = none → go a rs)
def spPartsD (K : PySem.W.Frag) (C cB cT : Addr) : Sp := fun vs H Q E => ∃ v, vs = [v] ∧ Looked K C cB cT v H E fun _ rs => ∀ p H', Same H H' → H' p = some (.tup (nats (partsOf rs))) → Q (.ref p) H'
theorem Looked.dis {v : V} {H : Hp} {E : XK} {R : Hp → Prop} {go : Addr → List Row → Prop} (h : Looked K C cB cT v H E go) (k : ∀ a rs, v = .ref a → Hist K C H a rs → rs.length ≤ 1000 → (∀ r ∈ rs, r.Ok) → firstBad rs = none → go a rs → ∀ H', Same H H' → R H') :
    (NoSq K H v ∧ OutF cB [("part", .str "asks")] H E) ∨
    (∃ a xs, ∃ g : V → Bool, v = .ref a ∧ Sq K H a xs ∧ xs.length ≤ 2000 ∧ (∀ x ∈ xs, ∃ t, TyX K H x t ∧ PySem.W.kitOne K t (.ref C) = some (g x)) ∧ (∃ x ∈ xs, g x = false) ∧ OutF cB [("part", .str "asks")] H E) ∨
    ∃ a rs, v = .ref a ∧ Hist K C H a rs ∧ rs.length ≤ 2000 ∧ (∀ r ∈ rs, r.Ok) ∧ (1000 < rs.length → OutF cT [("most", .int 1000), ("what", .str "asks")] H E) ∧
      (rs.length ≤ 1000 → ∀ i, firstBad rs = some i → OutF cB [("part", .int i)] H E) ∧ (rs.length ≤ 1000 → firstBad rs = none → ∀ H', Same H H' → R H') := by
  rcases h with h | h | ⟨a, rs, e, hh, hl, ok, q1, q2, q3⟩
  · exact .inl h
  · exact .inr (.inl h)
  · exact .inr (.inr ⟨a, rs, e, hh, hl, ok, q1, q2, fun l z => k a rs e hh l ok z (q3 l z)⟩)
theorem scPartsD : FnScope ["asks"] ["asks"] (defScope sPartsD) := ⟨rfl, rfl, rfl, by decide +kernel, rfl, by decide +kernel, by decide +kernel⟩
theorem ok_parts {f : Addr} {fd : FuncData} (F : Fun K "parts" "parts" sPartsD f fd) (T : B1 mg) (gN : mg "need_asks" = some (.ref fN)) (GN : FnOk P w K mg base (L2.CX P w) 7 fN dN ["asks"] (spNeed K C cB cT)) (FN : Fun K "need_asks" "need_asks" sNeed fN dN) (bN : Binds K dN ["asks"] [])
    (gP : mg "parts_of" = some (.ref fP)) (GP : FnOk P w K mg base CX0 2 fP dP ["asks"] (spParts K C)) (FP : Fun K "parts_of" "parts_of" sParts fP dP) (bP : Binds K dP ["asks"] []) : FnOk P w K mg base (L2.CX P w) 8 f fd ["asks"] (spPartsD K C cB cT) := by
  refine F.okX scPartsD (fun vs H Q E h => ?_) (fun cdv A' outer s H vs Q E hr h => ?_)
  · obtain ⟨v, rfl, _⟩ := h
    rfl
  · obtain ⟨v, rfl, h⟩ := h
    have hr7 : Room 7 _ := hr
    have hr2 : Room 2 _ := hr.mono (by decide)
    refine ⟨_, (pss_cons (ps_expr (pe_call GN hr7 (by rfl) gN FN.kp bN .nil (passes_call (takes_of rfl rfl rfl rfl) fun _ _ _ _ z => z) (pa_cons (pv 0) pa_nil)))
(pss_one (ps_ret (pe_callTy call_tuple_of (by rfl) T.tuple (by decide +kernel) (pa_cons (pe_call GP hr2 (by rfl) gP FP.kp bP .nil pass0 (pa_cons (pv 0) pa_nil)) pa_nil))))), ?_⟩
    refine ⟨v, rfl, v, rfl, h.dis fun a rs e hh hl ok z q H1 s1 => ?_⟩
    subst e
    refine ⟨.ref a, rfl, a, rs, rfl, hh.mono s1, by omega, fun D H2 s2 nD hD => ?_⟩
    exact ⟨D, _, rfl, .inl ⟨SqL.of hD, fun l hl => q l _ (s1.trans (s2.trans (same_new hl))) upd_same⟩⟩
end
end K34
end

section
set_option Elab.async false
set_option linter.all false
set_option maxRecDepth 100000
set_option maxHeartbeats 4000000
/-! zones -/
namespace K34
open PySem L2 KZ
abbrev sZones : Stmt := top 14
section
variable {X : Cx} {o i e f value : Expr} {pos pos' apos cpos : Pos} {td ty tx tv : TE} (P : Program) (w : World)
def tNNewP : TE := fun _ H Q => ∀ p, H p = none → Q (.ref p) (upd H p (DN P w p []))
def tNGetP (td ty : TE) : TE := fun σ H Q => td σ H fun x H1 => ty σ H1 fun y H2 => ∃ a kvs k v, x = .ref a ∧ Rd H2 a (DN P w a kvs) ∧ y = nV k ∧ valV kvs k = some v ∧ Q v H2
def tNGet2P (td ty tx : TE) : TE := fun σ H Q => td σ H fun x H1 => ∃ a kvs, x = .ref a ∧ Rd H1 a (DN P w a kvs) ∧ ty σ H1 fun y H2 => tx σ H2 fun z H3 => ∃ kvs k, Rd H3 a (DN P w a kvs) ∧ y = nV k ∧ Q ((valV kvs k).getD z) H3
def sNPutP (td ty tv : TE) : TS := fun D σ H => tv σ H fun v H1 => td σ H1 fun x H2 => ty σ H2 fun y H3 => ∃ a kvs k, x = .ref a ∧ H3 a = some (DN P w a kvs) ∧ y = nV k ∧ kvs.length < sizeLine ∧ D.nx σ (upd H3 a (DN P w a (putK kvs k v)))
def iNkP (td : TE) : TI := fun σ H R => td σ H fun x H1 => ∃ d o kvs, x = .ref d ∧ H1 d = some (.frz o (DN P w d kvs)) ∧ R (Itn P w d o kvs) H1
theorem pe_nnewK (hP : X.prog = P := by rfl) (hw : X.w = w := by rfl) : PE X (.Dict [] [] pos) (tNNewP P w) := by subst hP hw; exact pe_nnew
theorem pe_ngetK (ho : PE X o td) (hi : PE X i ty) (hs : NoSl i) (hP : X.prog = P := by rfl) (hw : X.w = w := by rfl) : PE X (.Subscript o i pos) (tNGetP P w td ty) := by subst hP hw; exact pe_nget ho hi hs
theorem pe_nget2K (ho : PE X o td) (he : PE X e ty) (hf : PE X f tx) (m : M2 X o "get" apos e f cpos) (hP : X.prog = P := by rfl) (hw : X.w = w := by rfl) : PE X (.Call (.Attribute o "get" apos) [e, f] [] cpos) (tNGet2P P w td ty tx) := by subst hP hw; exact pe_nget2 ho he hf m
theorem ps_nputK (ho : PE X o td) (hi : PE X i ty) (hv : PE X value tv) (hs : swapsWith value (some (.Subscript o i pos')) pos.line X.env = pure false) (hP : X.prog = P := by rfl) (hw : X.w = w := by rfl) : PS X (.Assign [.Subscript o i pos'] value pos) (sNPutP P w td ty tv) := by subst hP hw; exact ps_nput ho hi hv hs
theorem pi_nkK {tg : Expr} (he : PE X e td) (hP : X.prog = P := by rfl) (hw : X.w = w := by rfl) : PI X tg e (iNkP P w td) := by subst hP hw; exact pi_nk he
end
/-! pairs of a lot and a number, in their order -/
abbrev KI : Type := List (Option Int × Int)
def getO (l : KI) (k : Option Int) : Option Int := (l.find? fun p => decide (p.1 = k)).map (·.2)
def setO (l : KI) (k : Option Int) (v : Int) : KI := if (l.any fun p => decide (p.1 = k)) = true then l.map (fun p => if p.1 = k then (p.1, v) else p) else l ++ [(k, v)]
def iv (l : KI) : List (NK × V) := l.map fun p => (nk p.1, V.int p.2)
theorem nk_eq (o u : Option Int) : decide (nk o = nk u) = decide (o = u) := by
  by_cases h : o = u
  · rw [decide_eq_true h, decide_eq_true (by rw [h])]
  · rw [decide_eq_false h, decide_eq_false fun z => h (nk_inj z)]
theorem iv_get (l : KI) (k : Option Int) : valV (iv l) (nk k) = (getO l k).map V.int := by
  unfold valV iv getO
  induction l with
  | nil => rfl
  | cons p r ih =>
    rw [List.map_cons, List.find?_cons, List.find?_cons]
    show Option.map _ (match decide (nk p.1 = nk k) with | true => _ | false => _) = _
    rw [nk_eq]
    cases decide (p.1 = k) with
    | true => rfl
    | false => exact ih
theorem iv_put (l : KI) (k : Option Int) (v : Int) : putK (iv l) (nk k) (.int v) = iv (setO l k v) := by
  have an : ((iv l).any fun kv => decide (kv.1 = nk k)) = l.any fun p => decide (p.1 = k) := by
    unfold iv
    rw [List.any_map]
    congr 1
    funext p
    exact nk_eq p.1 k
  unfold putK setO
  rw [an]
  cases l.any fun p => decide (p.1 = k) with
  | true =>
    rw [if_pos rfl, if_pos rfl]
    unfold iv
    rw [List.map_map, List.map_map]
    refine List.map_congr_left fun p _ => ?_
    show (if nk p.1 = nk k then (nk p.1, V.int v) else (nk p.1, V.int p.2)) = (nk (if p.1 = k then (p.1, v) else p).1, V.int (if p.1 = k then (p.1, v) else p).2)
    by_cases h : p.1 = k
    · rw [if_pos h, if_pos (by rw [h])]
    · rw [if_neg h, if_neg fun z => h (nk_inj z)]
  | false =>
    rw [if_neg (by decide), if_neg (by decide)]
    unfold iv
    rw [List.map_append]
    rfl
theorem setO_len (l : KI) (k : Option Int) (v : Int) : (setO l k v).length ≤ l.length + 1 := by
  unfold setO
  split
  · rw [List.length_map]; omega
  · rw [List.length_append]; simp
theorem iv_getD (l : KI) (k : Option Int) (x : Int) : (valV (iv l) (nk k)).getD (.int x) = V.int ((getO l k).getD x) := by
  rw [iv_get]
  cases getO l k <;> rfl
theorem iv_len (l : KI) : (iv l).length = l.length := by unfold iv; rw [List.length_map]
def max2 (i j : Int) : Int := if j > i then j else i
def min2 (i j : Int) : Int := if j < i then j else i
def lotOf (r : Row) (i : Nat) : Option Int := if r.g = true then r.t else some (i : Int)
def endR (e : KI) (i : Nat) (r : Row) : KI := match r.e with
  | none => e
  | some x => setO e (lotOf r i) (min2 ((getO e (lotOf r i)).getD x) x)
def begR (b : KI) (i : Nat) (r : Row) : KI := setO b (lotOf r i) (max2 ((getO b (lotOf r i)).getD r.b) r.b)
/-- one ask more: ends, begins -/
def stepZ (rs : List Row) (st : KI × KI) (i : Nat) : KI × KI := match rs[i]? with
  | none => st
  | some r => (endR st.1 i r, begR st.2 i r)
def initZ (rs : List Row) : KI × KI := if isTold rs none = true then ([(none, -1)], [(none, -1)]) else ([], [])
def foldZ (rs : List Row) (l : List Nat) : KI × KI := l.foldl (stepZ rs) (initZ rs)
theorem stepZ_none {rs : List Row} {st : KI × KI} {i : Nat} (h : rs[i]? = none) : stepZ rs st i = st := by unfold stepZ; rw [h]
theorem stepZ_some {rs : List Row} {st : KI × KI} {i : Nat} {r : Row} (h : rs[i]? = some r) : stepZ rs st i = (endR st.1 i r, begR st.2 i r) := by unfold stepZ; rw [h]
theorem getO_set (l : KI) (k j : Option Int) (v : Int) : getO (setO l k v) j = if j = k then some v else getO l j := by
  have h := valV_put (iv l) (nk k) (nk j) (.int v)
  rw [iv_put, iv_get, iv_get] at h
  have hj : (nk j = nk k) ↔ (j = k) := ⟨nk_inj, fun z => by rw [z]⟩
  by_cases e : j = k
  · rw [if_pos e]
    rw [if_pos (hj.mpr e)] at h
    cases g : getO (setO l k v) j with
    | none => rw [g] at h; cases h
    | some x => rw [g] at h; cases h; rfl
  · rw [if_neg e]
    rw [if_neg fun z => e (hj.mp z)] at h
    cases g : getO (setO l k v) j with
    | none =>
      rw [g] at h
      cases g2 : getO l j with
      | none => rfl
      | some y => rw [g2] at h; cases h
    | some x =>
      rw [g] at h
      cases g2 : getO l j with
      | none => rw [g2] at h; cases h
      | some y => rw [g2] at h; cases h; rfl
theorem foldZ_snoc (rs : List Row) (l : List Nat) (i : Nat) : foldZ rs (l ++ [i]) = stepZ rs (foldZ rs l) i := by
  unfold foldZ
  rw [List.foldl_append]
  rfl
theorem initZ_len (rs : List Row) : (initZ rs).1.length ≤ 1 ∧ (initZ rs).2.length ≤ 1 := by
  unfold initZ
  split <;> exact ⟨by simp, by simp⟩
theorem stepZ_len (rs : List Row) (st : KI × KI) (i : Nat) : (stepZ rs st i).1.length ≤ st.1.length + 1 ∧ (stepZ rs st i).2.length ≤ st.2.length + 1 := by
  cases h : rs[i]? with
  | none => rw [stepZ_none h]; exact ⟨by omega, by omega⟩
  | some r =>
    rw [stepZ_some h]
    refine ⟨?_, setO_len _ _ _⟩
    show (endR st.1 i r).length ≤ _
    unfold endR
    cases r.e with
    | none => exact Nat.le_succ _
    | some e => exact setO_len _ _ _
theorem foldZ_len (rs : List Row) : ∀ (l : List Nat) (st : KI × KI), (l.foldl (stepZ rs) st).1.length ≤ st.1.length + l.length ∧ (l.foldl (stepZ rs) st).2.length ≤ st.2.length + l.length
  | [], st => ⟨by simp, by simp⟩
  | i :: l, st => by
    rw [List.foldl_cons]
    have h := foldZ_len rs l (stepZ rs st i)
    have h2 := stepZ_len rs st i
    rw [List.length_cons]
    exact ⟨by omega, by omega⟩
theorem foldZ_len1 (rs : List Row) (l : List Nat) : (foldZ rs l).1.length ≤ 1 + l.length ∧ (foldZ rs l).2.length ≤ 1 + l.length := by
  have h := foldZ_len rs l (initZ rs)
  have h2 := initZ_len rs
  exact ⟨Nat.le_trans h.1 (by omega), Nat.le_trans h.2 (by omega)⟩
theorem foldZ_ends (rs : List Row) (k : Option Int) : ∀ (l : List Nat) (st : KI × KI), (getO (l.foldl (stepZ rs) st).1 k).isSome = true ↔ ((getO st.1 k).isSome = true ∨ ∃ i ∈ l, ∃ r, rs[i]? = some r ∧ r.e.isSome = true ∧ lotOf r i = k)
  | [], st => ⟨fun h => .inl h, fun h => h.elim id fun ⟨i, m, _⟩ => by cases m⟩
  | i :: l, st => by
    rw [List.foldl_cons, foldZ_ends rs k l]
    have one : (getO (stepZ rs st i).1 k).isSome = true ↔ ((getO st.1 k).isSome = true ∨ ∃ r, rs[i]? = some r ∧ r.e.isSome = true ∧ lotOf r i = k) := by
      cases h : rs[i]? with
      | none =>
        rw [stepZ_none h]
        exact ⟨.inl, fun h => h.elim id fun ⟨r, z, _⟩ => by cases z⟩
      | some r =>
        rw [stepZ_some h]
        show (getO (endR st.1 i r) k).isSome = true ↔ _
        unfold endR
        cases he : r.e with
        | none => exact ⟨.inl, fun h => h.elim id fun ⟨r', z, z2, _⟩ => by cases z; rw [he] at z2; cases z2⟩
        | some e =>
          show (getO (setO st.1 _ _) k).isSome = true ↔ _
          rw [getO_set]
          by_cases hk : k = lotOf r i
          · rw [if_pos hk]
            exact ⟨fun _ => .inr ⟨r, rfl, by rw [he]; rfl, hk.symm⟩, fun _ => rfl⟩
          · rw [if_neg hk]
            exact ⟨.inl, fun h => h.elim id fun ⟨r', z, _, z2⟩ => by cases z; exact absurd z2.symm hk⟩
    rw [one]
    constructor
    · rintro ((h | ⟨r, h⟩) | ⟨j, m, h⟩)
      · exact .inl h
      · exact .inr ⟨i, List.mem_cons_self, r, h⟩
      · exact .inr ⟨j, List.mem_cons_of_mem _ m, h⟩
    · rintro (h | ⟨j, m, r, h⟩)
      · exact .inl (.inl h)
      · rcases List.mem_cons.mp m with rfl | m
        · exact .inl (.inr ⟨r, h⟩)
        · exact .inr ⟨j, m, r, h⟩
theorem foldZ_begins (rs : List Row) (k : Option Int) : ∀ (l : List Nat) (st : KI × KI), (getO (l.foldl (stepZ rs) st).2 k).isSome = true ↔ ((getO st.2 k).isSome = true ∨ ∃ i ∈ l, ∃ r, rs[i]? = some r ∧ lotOf r i = k)
  | [], st => ⟨fun h => .inl h, fun h => h.elim id fun ⟨i, m, _⟩ => by cases m⟩
  | i :: l, st => by
    rw [List.foldl_cons, foldZ_begins rs k l]
    have one : (getO (stepZ rs st i).2 k).isSome = true ↔ ((getO st.2 k).isSome = true ∨ ∃ r, rs[i]? = some r ∧ lotOf r i = k) := by
      cases h : rs[i]? with
      | none =>
        rw [stepZ_none h]
        exact ⟨.inl, fun h => h.elim id fun ⟨r, z, _⟩ => by cases z⟩
      | some r =>
        rw [stepZ_some h]
        show (getO (begR st.2 i r) k).isSome = true ↔ _
        unfold begR
        rw [getO_set]
        by_cases hk : k = lotOf r i
        · rw [if_pos hk]
          exact ⟨fun _ => .inr ⟨r, rfl, hk.symm⟩, fun _ => rfl⟩
        · rw [if_neg hk]
          exact ⟨.inl, fun h => h.elim id fun ⟨r', z, z2⟩ => by cases z; exact absurd z2.symm hk⟩
    rw [one]
    constructor
    · rintro ((h | ⟨r, h⟩) | ⟨j, m, h⟩)
      · exact .inl h
      · exact .inr ⟨i, List.mem_cons_self, r, h⟩
      · exact .inr ⟨j, List.mem_cons_of_mem _ m, h⟩
    · rintro (h | ⟨j, m, r, h⟩)
      · exact .inl (.inl h)
      · rcases List.mem_cons.mp m with rfl | m
        · exact .inl (.inr ⟨r, h⟩)
        · exact .inr ⟨j, m, r, h⟩
theorem initZ_get (rs : List Row) (k : Option Int) : ((getO (initZ rs).1 k).isSome = true ↔ (getO (initZ rs).2 k).isSome = true) := by
  unfold initZ
  by_cases h : isTold rs none = true
  · rw [if_pos h]
  · rw [if_neg h]
theorem mem_parts {rs : List Row} {i : Nat} : i ∈ partsOf rs ↔ ∃ r, rs[i]? = some r ∧ (r.e.isSome || (!r.g && isTold rs (some (i : Int)))) = true := by
  unfold partsOf
  rw [List.mem_filter, List.mem_range]
  unfold isPart
  constructor
  · rintro ⟨h, p⟩
    rw [List.getElem?_eq_getElem h] at p
    exact ⟨_, List.getElem?_eq_getElem h, p⟩
  · rintro ⟨r, e, p⟩
    rw [e]
    exact ⟨(List.getElem?_eq_some_iff.mp e).1, p⟩
/-- each lot that has a begin has an end -/
theorem ends_there {rs : List Row} {k : Option Int} (h : (getO (foldZ rs (partsOf rs)).2 k).isSome = true) : (getO (foldZ rs (partsOf rs)).1 k).isSome = true := by
  unfold foldZ at h ⊢
  rw [foldZ_begins] at h
  rw [foldZ_ends]
  rcases h with h | ⟨i, m, r, e, lk⟩
  · exact .inl ((initZ_get rs k).mpr h)
  · refine .inr ?_
    obtain ⟨r', e', p⟩ := mem_parts.mp m
    rw [e] at e'
    cases e'
    by_cases he : r.e.isSome = true
    · exact ⟨i, m, r, e, he, lk⟩
    · rw [Bool.not_eq_true] at he
      rw [he, Bool.false_or, Bool.and_eq_true] at p
      obtain ⟨ng, tl⟩ := p
      have g0 : r.g = false := by simpa using ng
      unfold isTold at tl
      obtain ⟨r2, m2, t2⟩ := List.any_eq_true.mp tl
      obtain ⟨j, hj, ej⟩ := List.mem_iff_getElem.mp m2
      rw [Bool.and_eq_true] at t2
      obtain ⟨t3, t4⟩ := t2
      unfold tells at t3
      rw [Bool.and_eq_true] at t3
      have ej2 : rs[j]? = some r2 := by rw [List.getElem?_eq_getElem hj, ej]
      refine ⟨j, mem_parts.mpr ⟨r2, ej2, by rw [t3.2]; rfl⟩, r2, ej2, t3.2, ?_⟩
      rw [← lk]
      unfold lotOf
      rw [if_pos t3.1, g0, if_neg (by decide)]
      exact of_decide_eq_true t4
/-- the lots, their least ends, their greatest begins -/
def putsZ (b : KI) : List Int := PySem.W.sortI ((b.map (·.1)).filterMap id)
def lotsZ (b : KI) : List (Option Int) := if (getO b none).isSome = true then none :: (putsZ b).map some else (putsZ b).map some
def zoneZ (st : KI × KI) (k : Option Int) : Option Int × Int × Int := (k, (getO st.1 k).getD 0, (getO st.2 k).getD 0)
def zonesOf (rs : List Row) : List (Option Int × Int × Int) := (lotsZ (foldZ rs (partsOf rs)).2).map (zoneZ (foldZ rs (partsOf rs)))
theorem getO_mem {b : KI} {k : Option Int} (h : k ∈ b.map (·.1)) : (getO b k).isSome = true := by
  unfold getO
  obtain ⟨p, m, e⟩ := List.mem_map.mp h
  rw [Option.isSome_map, List.find?_isSome]
  exact ⟨p, m, decide_eq_true e⟩
theorem lots_there {b : KI} {k : Option Int} (h : k ∈ lotsZ b) : (getO b k).isSome = true := by
  have put : ∀ k, k ∈ (putsZ b).map some → (getO b k).isSome = true := fun k m => by
    obtain ⟨x, hx, rfl⟩ := List.mem_map.mp m
    have := (PySem.W.sortI_perm _).mem_iff.mp hx
    obtain ⟨o, mo, eo⟩ := List.mem_filterMap.mp this
    cases eo
    exact getO_mem mo
  unfold lotsZ at h
  split at h
  · rcases List.mem_cons.mp h with rfl | h
    · assumption
    · exact put _ h
  · exact put _ h
section
variable {P : Program} {w : World} {K : PySem.W.Frag} {mg : Str → Option Value} {base : Heap} {fT fN fP C cB cT : Addr} {dT dN dP : FuncData}
theorem scZones : FnScope ["asks", "ends", "begins", "at", "ask", "lot", "puts", "lots"] ["asks"] (defScope sZones) := ⟨rfl, rfl, rfl, by decide +kernel, rfl, by decide +kernel, by decide +kernel⟩
/-- the zones at p -/
def ZonesAt (H : Hp) (p : Addr) (zs : List (Option Int × Int × Int)) : Prop := ∃ qs : List Addr, H p = some (.tup (qs.map V.ref)) ∧ qs.length = zs.length ∧ ∀ (i : Nat) q z, qs[i]? = some q → zs[i]? = some z → H q = some (.tup [oV z.1, .int z.2.1, .int z.2.2])
def spZones (K : PySem.W.Frag) (C cB cT : Addr) : Sp := fun vs H Q E => ∃ v, vs = [v] ∧ Looked K C cB cT v H E fun _ rs => ∀ p H', Same H H' → ZonesAt H' p (zonesOf rs) → Q (.ref p) H'
structure ZS (P : Program) (w : World) (De Db D : Addr) (H1 : Hp) (rs : List Row) (st : KI × KI) (H : Hp) : Prop where
  e : H De = some (DN P w De (iv st.1))
  b : H Db = some (DN P w Db (iv st.2))
  d : H D = some (.lst (nats (partsOf rs)))
  s : Same H1 H
theorem lot_val (A : AskC K mg C) {σ : L2.St} {H : Hp} {p : Addr} {r : Row} {at_ : Nat} {Q : VK} (h3 : σ[3]? = some (some (.int at_))) (h4 : σ[4]? = some (some (.ref p))) (ha : AskAt C H p r) (q : Q (oV (lotOf r at_)) H) :
    tIf (tTest (tOp rEq (tFld K (tVar 4) "word") (tC (.str "put")))) (tVar 3) (tFld K (tVar 4) "told") σ H Q := by
  obtain ⟨dx, ea⟩ := ha
  refine ⟨.ref p, h4, p, C, dx, flds r, .str (wd r.g), rfl, ea, A.cl, A.nw, rfl, rfl, !r.g, (by cases r.g <;> decide +kernel), ?_⟩
  unfold lotOf at q
  cases hg : r.g with
  | true =>
    rw [hg, if_pos rfl] at q
    exact iteF' ⟨.ref p, h4, p, C, dx, flds r, oV r.t, rfl, ea, A.cl, A.nt, rfl, q⟩
  | false =>
    rw [hg, if_neg (by decide)] at q
    exact iteT' ⟨_, h3, q⟩
theorem walk_nk {P : Program} {w : World} {d : Addr} {o : Obj} {kvs : List (NK × V)} : Walk (KZ.Itn P w d o kvs) kvs.length (fun H => H d = some (.frz o (DN P w d kvs))) (fun i H x H' => H' = H ∧ ∃ k v, kvs[i]? = some (k, v) ∧ x = nV k) :=
  ⟨fun _ _ hi q => ⟨q, hi⟩, fun _ q => ⟨q, Nat.le_refl _⟩, fun _ _ _ _ _ _ y => y⟩
def soms (b : KI) : List Int := (b.map (·.1)).filterMap id
theorem putsZ_len (b : KI) : (putsZ b).length ≤ b.length := by
  unfold putsZ
  rw [(PySem.W.sortI_perm _).length_eq]
  refine Nat.le_trans (List.length_filterMap_le _ _) ?_
  rw [List.length_map]
  exact Nat.le_refl _
theorem lotsZ_len (b : KI) : (lotsZ b).length ≤ b.length + 1 := by
  have := putsZ_len b
  unfold lotsZ
  split
  · rw [List.length_cons, List.length_map]; omega
  · rw [List.length_map]; omega
theorem lots_val {σ : L2.St} {H : Hp} {Db M : Addr} {b : KI} {Q : VK} (h2 : σ[2]? = some (some (.ref Db))) (h6 : σ[6]? = some (some (.ref M))) (hl : b.length ≤ 1001) (hb : H Db = some (DN P w Db (iv b))) (hm : H M = some (.lst ((putsZ b).map V.int))) (q : ∀ L H', Same H H' → H' L = some (.lst ((lotsZ b).map oV)) → Q (.ref L) H') :
    tIf (tB (tNInP P w (tC .non) (tVar 2))) (tLst (tCons (tC .non) (StX.tStar K (tVar 6) tNil))) (tVar 6) σ H Q := by
  refine ⟨.ref Db, h2, Db, iv b, none, rfl, .inl hb, rfl, (getO b none).isSome, (by rw [show (none : NK) = nk none from rfl, iv_get]; cases getO b none <;> rfl), ?_⟩
  have mm : ((putsZ b).map some).map oV = (putsZ b).map V.int := by
    rw [List.map_map]
    rfl
  unfold lotsZ at q
  cases hn : (getO b none).isSome with
  | true =>
    rw [hn, if_pos rfl] at q
    have pl := putsZ_len b
    refine iteT' ⟨.ref M, h6, M, _, rfl, .inr (SqL.of hm), ?_, fun L hL => q L _ (same_new hL) ?_⟩
    · rw [List.append_nil, List.length_cons, List.length_map]
      exact Nat.le_trans (show _ ≤ 1002 by omega) (by decide)
    · rw [upd_same, List.append_nil, List.map_cons, mm]
      rfl
  | false =>
    rw [hn, if_neg (by decide), mm] at q
    exact iteF' ⟨_, h6, q M H (Same.refl H) hm⟩
theorem get_val {l : KI} {k : Option Int} (h : (getO l k).isSome = true) : valV (iv l) (nk k) = some (.int ((getO l k).getD 0)) := by
  rw [iv_get]
  cases g : getO l k with
  | none => rw [g] at h; cases h
  | some x => rfl
theorem ite_nx {s1 : TS} {D : Ends} {σ : L2.St} {H : Hp} {b : Bool} (I : Hp → Prop) (rest : ∀ H', I H' → D.nx σ H') (h1 : b = true → (∀ H', I H' → D.nx σ H') → s1 D σ H) (h0 : b = false → I H) : if b = true then s1 D σ H else tNext D σ H := by
  cases b with
  | true => rw [if_pos rfl]; exact h1 rfl rest
  | false => rw [if_neg (by decide)]; exact rest H (h0 rfl)
theorem ok_zones {f : Addr} {fd : FuncData} (F : Fun K "zones" "zones" sZones f fd) (A : AskC K mg C) (T : B1 mg) (gN : mg "need_asks" = some (.ref fN)) (GN : FnOk P w K mg base (L2.CX P w) 7 fN dN ["asks"] (spNeed K C cB cT)) (FN : Fun K "need_asks" "need_asks" sNeed fN dN) (bN : Binds K dN ["asks"] [])
    (gT : mg "told_lots" = some (.ref fT)) (FT : Fun K "told_lots" "told_lots" sTold fT dT) (bT : Binds K dT ["asks"] []) (gP : mg "parts_of" = some (.ref fP)) (FP : Fun K "parts_of" "parts_of" sParts fP dP) (bP : Binds K dP ["asks"] []) : FnOk P w K mg base (L2.CX P w) 8 f fd ["asks"] (spZones K C cB cT) := by
  have GT : FnOk P w K mg base CX0 1 fT dT ["asks"] (spTold K P w C) := ok_told FT A T
  have GP : FnOk P w K mg base CX0 2 fP dP ["asks"] (spParts K C) := ok_parts_of FP A T gT FT bT
  refine F.okX scZones (fun vs H Q E h => ?_) (fun cdv A' outer s H vs Q E hr h => ?_)
  · obtain ⟨v, rfl, _⟩ := h
    rfl
  · obtain ⟨v, rfl, h⟩ := h
    have hr7 : Room 7 _ := hr
    have hr2 : Room 2 _ := hr.mono (by decide)
    have hr1 : Room 1 _ := hr.mono (by decide)
    refine ⟨_, (pss_cons (ps_expr (pe_call GN hr7 (by rfl) gN FN.kp bN .nil (passes_call (takes_of rfl rfl rfl rfl) fun _ _ _ _ z => z) (pa_cons (pv 0) pa_nil)))
(pss_cons (ps_set (i := 1) scZones.nd rfl (Or.inr rfl) (pe_nnewK P w))
(pss_cons (ps_set (i := 2) scZones.nd rfl (Or.inr rfl) (pe_nnewK P w))
(pss_cons (ps_if (pt_cmp (pc_ninK P w pe_non (pe_call GT hr1 (by rfl) gT FT.kp bT .nil pass0 (pa_cons (pv 0) pa_nil))))
(pss_cons (ps_nputK P w (pv 1) pe_non (pe_un un_neg pe_int) rfl)
(pss_one (ps_nputK P w (pv 2) pe_non (pe_un un_neg pe_int) rfl)))
pss_nil)
(pss_cons (ps_for (passes_of rfl) rfl (pi_list (pe_call GP hr2 (by rfl) gP FP.kp bP .nil pass0 (pa_cons (pv 0) pa_nil))) (pg_name (i := 3) scZones.nd rfl (Or.inl rfl))
(pss_cons (ps_set (i := 4) scZones.nd rfl (Or.inl rfl) (pe_ix (ix_seqK K) (pv 0) (pv 3) (fun _ _ => rfl)))
(pss_cons (ps_set (i := 5) scZones.nd rfl (Or.inl rfl) (pe_ifExp (pt_cmpR op_eq (pe_fldK K (pv 4) rfl) pe_str (nomark _)) (pv 3) (pe_fldK K (pv 4) rfl)))
(pss_cons (ps_nputK P w (pv 2) (pv 5) (pe_callB (call_max2 rfl) (by rfl) T.max (by decide +kernel) (pa_cons (pe_nget2K P w (pv 2) (pv 5) (pe_fldK K (pv 4) rfl) ⟨rfl, rfl, rfl, rfl⟩) (pa_cons (pe_fldK K (pv 4) rfl) pa_nil))) rfl)
(pss_one (ps_if (pt_cmpR op_notN (pe_fldK K (pv 4) rfl) pe_non (nomark _))
(pss_one (ps_nputK P w (pv 1) (pv 5) (pe_callB (call_min2 rfl) (by rfl) T.min (by decide +kernel) (pa_cons (pe_nget2K P w (pv 1) (pv 5) (pe_fldK K (pv 4) rfl) ⟨rfl, rfl, rfl, rfl⟩) (pa_cons (pe_fldK K (pv 4) rfl) pa_nil))) rfl))
pss_nil))))))
(pss_cons (ps_set (i := 6) scZones.nd rfl (Or.inl rfl) (pe_callB cr_sortedI (by rfl) T.sorted (by decide +kernel) (pa_cons (pe_lock (pe_lc (own := [("lot", 5)]) (g := gName 5) (by rfl) scZones.nd (pi_nkK P w (pv 2)) (blkOk_by (own := [("lot", 5)]) (N := ["asks", "ends", "begins", "at", "ask", "lot", "puts", "lots"]) (sc := defScope sZones) (by decide +kernel)) (fun _ _ _ _ _ => pg_name (i := 5) scZones.nd rfl (Or.inl rfl)) (fun _ _ _ _ _ => pts_one (pt_cmpR op_notN (pv 5) pe_non (nomark _))) (fun _ _ _ _ _ => pv 5))) pa_nil)))
(pss_cons (ps_set (i := 7) scZones.nd rfl (Or.inl rfl) (pe_ifExp (pt_cmp (pc_ninK P w pe_non (pv 2))) (pe_lst (pa_cons pe_non (StX.pa_star (pv 6) pa_nil))) (pv 6)))
(pss_one (ps_ret (pe_callTy call_tuple_of (by rfl) T.tuple (by decide +kernel) (pa_cons (pe_lc (own := [("lot", 5)]) (g := gName 5) (tt := tYes) (by rfl) scZones.nd (pi_list (pv 7)) (blkOk_by (own := [("lot", 5)]) (N := ["asks", "ends", "begins", "at", "ask", "lot", "puts", "lots"]) (sc := defScope sZones) (by decide +kernel)) (fun _ _ _ _ _ => pg_name (i := 5) scZones.nd rfl (Or.inl rfl)) (fun _ _ _ _ _ => pts_nil) (fun _ _ _ _ _ => pe_tup (pa_cons (pv 5) (pa_cons (pe_ngetK P w (pv 1) (pv 5) (fun _ _ => rfl)) (pa_cons (pe_ngetK P w (pv 2) (pv 5) (fun _ _ => rfl)) pa_nil))))) pa_nil))))))))))), ?_⟩
    refine ⟨v, rfl, v, rfl, h.dis fun a rs e hh hl ok z q H1 s1 => ?_⟩
    subst e
    have hh1 := hh.mono s1
    refine fun De hDe Db hDb => ?_
    have ne : Db ≠ De := fun z => by rw [z, upd_same] at hDb; cases hDb
    have hb1 : H1 Db = none := by rw [upd_ne ne] at hDb; exact hDb
    have s2 : Same H1 (upd (upd H1 De (DN P w De [])) Db (DN P w Db [])) := (same_new hDe).trans (same_new hDb)
    refine ⟨.ref a, rfl, a, rs, rfl, hh1.mono s2, by omega, fun T hT => ⟨T, toldKvs rs, none, rfl, .inl upd_same, rfl, isTold rs none, (by rw [← told_in]; rfl), ?_⟩⟩
    have hd0 : Same (upd (upd H1 De (DN P w De [])) Db (DN P w Db [])) (upd (upd (upd H1 De (DN P w De [])) Db (DN P w Db [])) T (DN P w T (toldKvs rs))) := same_new hT
    have se : upd (upd (upd H1 De (DN P w De [])) Db (DN P w Db [])) T (DN P w T (toldKvs rs)) De = some (DN P w De (iv [])) := hd0 _ _ (by rw [upd_ne ne.symm, upd_same]; rfl)
    have sb : upd (upd (upd H1 De (DN P w De [])) Db (DN P w Db [])) T (DN P w T (toldKvs rs)) Db = some (DN P w Db (iv [])) := hd0 _ _ (by rw [upd_same]; rfl)
    have s3 := s2.trans hd0
    generalize upd (upd (upd H1 De (DN P w De [])) Db (DN P w Db [])) T (DN P w T (toldKvs rs)) = H2 at se sb s3 ⊢
    refine ite_nx (fun H3 => H3 De = some (DN P w De (iv (initZ rs).1)) ∧ H3 Db = some (DN P w Db (iv (initZ rs).2)) ∧ Same H1 H3) (fun H3 h3 => ?_) (fun tl rest => ?_) (fun tl => ?_)
    rotate_left
    · have i0 : initZ rs = ([(none, -1)], [(none, -1)]) := by unfold initZ; rw [if_pos tl]
      rw [i0] at rest
      refine ⟨_, rfl, .ref De, rfl, De, [], none, rfl, se, rfl, by decide, ?_⟩
      refine ⟨_, rfl, .ref Db, rfl, Db, [], none, rfl, (upd_ne ne).trans sb, rfl, by decide, rest _ ⟨?_, upd_same, ?_⟩⟩
      · rw [upd_ne ne.symm]
        exact upd_same
      · exact fun b o e => by
          have b1 : b ≠ De := ne_of_none e hDe
          have b2 : b ≠ Db := ne_of_none e hb1
          rw [upd_ne b2, upd_ne b1]
          exact s3 b o e
    · have i0 : initZ rs = ([], []) := by unfold initZ; rw [tl]; rfl
      rw [i0]
      exact ⟨se, sb, s3⟩
    obtain ⟨he, hb, s4⟩ := h3
    refine ⟨.ref a, rfl, a, rs, rfl, hh1.mono s4, by omega, fun D H4 s5 nD hD => ⟨D, rfl, ⟨_, SqL.of hD⟩, ?_⟩⟩
    have neD1 : De ≠ D := ne_of_none he nD
    have neD2 : Db ≠ D := ne_of_none hb nD
    have z0 : ZS P w De Db D H1 rs (foldZ rs ((partsOf rs).take 0)) H4 := ⟨s5 _ _ he, s5 _ _ hb, hD, s4.trans s5⟩
    refine for_it (walk_list (K := K) (a := D) (xs := nats (partsOf rs))) (fun i σ H' => ∃ x3 x4 x5, σ = [some (.ref a), some (.ref De), some (.ref Db), x3, x4, x5, none, none] ∧ ZS P w De Db D H1 rs (foldZ rs ((partsOf rs).take i)) H') ⟨_, _, _, rfl, z0⟩ (fun i σ H' _ ⟨_, _, _, _, z⟩ => SqL.of z.d) ?_ ?_
    · rintro i x σ H5 H6 hi ⟨x3, x4, x5, rfl, zs⟩ ⟨rfl, hx⟩
      have hi2 : i < (partsOf rs).length := by
        unfold nats at hi
        rw [List.length_map] at hi
        exact hi
      have ex : x = .int ((partsOf rs)[i] : Nat) := by
        unfold nats at hx
        rw [List.getElem?_map, List.getElem?_eq_getElem hi2] at hx
        exact (Option.some.inj hx).symm
      subst ex
      have tk : foldZ rs ((partsOf rs).take (i + 1)) = stepZ rs (foldZ rs ((partsOf rs).take i)) (partsOf rs)[i] := by
        rw [List.take_add_one, List.getElem?_eq_getElem hi2]
        exact foldZ_snoc rs _ _
      have ln : ((partsOf rs).take i).length ≤ 1000 := by
        have h1 : (partsOf rs).length ≤ rs.length := by
          unfold partsOf
          exact Nat.le_trans (List.length_filter_le _ _) (by simp)
        rw [List.length_take]
        omega
      have l1 := foldZ_len1 rs ((partsOf rs).take i)
      obtain ⟨r, er, _⟩ := mem_parts.mp (List.getElem_mem hi2)
      rw [tk, stepZ_some er]
      generalize (partsOf rs)[i] = at_ at er ⊢
      generalize foldZ rs ((partsOf rs).take i) = st at zs l1 ⊢
      obtain ⟨ps, sq, h2⟩ := hh1.sq
      have hip : at_ < ps.length := by rw [h2.1]; exact (List.getElem?_eq_some_iff.mp er).1
      have ep : ps[at_]? = some ps[at_] := List.getElem?_eq_getElem hip
      generalize ps[at_] = p at ep
      have at1 : atI (ps.map V.ref) (at_ : Int) = some (.ref p) := at_nat (by rw [List.getElem?_map, ep]; rfl)
      have ask := (h2.2 at_ p r ep er).mono zs.s
      refine ⟨.ref a, rfl, .int at_, rfl, Sq.ix (Sq.mono zs.s sq) at1 (lot_val A rfl rfl ask ?_)⟩
      obtain ⟨dx, ea⟩ := ask
      have nb : ∀ l : KI, l.length ≤ 1 + ((partsOf rs).take i).length → (iv l).length < sizeLine := fun l h => by
        rw [iv_len]
        exact Nat.lt_of_le_of_lt (Nat.le_trans h (show _ ≤ 1001 by omega)) (by decide)
      refine ⟨.ref Db, rfl, Db, iv st.2, rfl, .inl zs.b, oV (lotOf r at_), rfl, .ref p, rfl, p, C, dx, flds r, .int r.b, rfl, ea, A.cl, A.nb, rfl, iv st.2, nk (lotOf r at_), .inl zs.b, (nk_v _).symm, .ref p, rfl, p, C, dx, flds r, .int r.b, rfl, ea, A.cl, A.nb, rfl, (getO st.2 (lotOf r at_)).getD r.b, r.b, by rw [iv_getD], ?_⟩
      refine ⟨.ref Db, rfl, _, rfl, Db, iv st.2, nk (lotOf r at_), rfl, zs.b, (nk_v _).symm, nb _ l1.2, ?_⟩
      have pDe : H1 De = none := hDe
      have b1 : begR st.2 at_ r = setO st.2 (lotOf r at_) (max2 ((getO st.2 (lotOf r at_)).getD r.b) r.b) := rfl
      have pu : putK (iv st.2) (nk (lotOf r at_)) (.int (if r.b > (getO st.2 (lotOf r at_)).getD r.b then r.b else (getO st.2 (lotOf r at_)).getD r.b)) = iv (begR st.2 at_ r) := by
        rw [iv_put, b1]
        rfl
      rw [pu]
      have z1 : ZS P w De Db D H1 rs (st.1, begR st.2 at_ r) (upd H6 Db (DN P w Db (iv (begR st.2 at_ r)))) := by
        refine ⟨?_, upd_same, ?_, fun b o e => ?_⟩
        · rw [upd_ne ne.symm]; exact zs.e
        · rw [upd_ne neD2.symm]; exact zs.d
        · rw [upd_ne (ne_of_none e hb1)]; exact zs.s b o e
      have ea : AskAt C (upd H6 Db (DN P w Db (iv (begR st.2 at_ r)))) p r := by
        have : AskAt C H1 p r := h2.2 at_ p r ep er
        exact this.mono z1.s
      obtain ⟨dx, ea⟩ := ea
      generalize upd H6 Db (DN P w Db (iv (begR st.2 at_ r))) = H7 at z1 ea ⊢
      refine ⟨.ref p, rfl, p, C, dx, flds r, oV r.e, rfl, ea, A.cl, A.ne, rfl, rfl, r.e.isSome, (by cases r.e <;> rfl), ?_⟩
      have e1 : endR st.1 at_ r = match r.e with
        | none => st.1
        | some x => setO st.1 (lotOf r at_) (min2 ((getO st.1 (lotOf r at_)).getD x) x) := rfl
      cases he : r.e with
      | none =>
        rw [he] at e1
        rw [e1]
        exact iteF' ⟨_, _, _, rfl, z1⟩
      | some x =>
        rw [he] at e1
        rw [e1]
        refine iteT' ?_
        refine ⟨.ref De, rfl, De, iv st.1, rfl, .inl z1.e, oV (lotOf r at_), rfl, .ref p, rfl, p, C, dx, flds r, .int x, rfl, ea, A.cl, A.ne, (by unfold flds; rw [he]; rfl), iv st.1, nk (lotOf r at_), .inl z1.e, (nk_v _).symm, .ref p, rfl, p, C, dx, flds r, .int x, rfl, ea, A.cl, A.ne, (by unfold flds; rw [he]; rfl), (getO st.1 (lotOf r at_)).getD x, x, by rw [iv_getD], ?_⟩
        refine ⟨.ref De, rfl, _, rfl, De, iv st.1, nk (lotOf r at_), rfl, z1.e, (nk_v _).symm, nb _ l1.1, ?_⟩
        have pu : putK (iv st.1) (nk (lotOf r at_)) (.int (if x < (getO st.1 (lotOf r at_)).getD x then x else (getO st.1 (lotOf r at_)).getD x)) = iv (setO st.1 (lotOf r at_) (min2 ((getO st.1 (lotOf r at_)).getD x) x)) := by
          rw [iv_put]
          rfl
        rw [pu]
        refine ⟨_, _, _, rfl, upd_same, ?_, ?_, fun b o e => ?_⟩
        · rw [upd_ne ne]; exact z1.b
        · rw [upd_ne neD1.symm]; exact z1.d
        · rw [upd_ne (ne_of_none e hDe)]; exact z1.s b o e
    · rintro σ H5 ⟨x3, x4, x5, rfl, zs⟩
      have ln : (nats (partsOf rs)).length = (partsOf rs).length := by unfold nats; rw [List.length_map]
      rw [ln, List.take_of_length_le (Nat.le_refl _)] at zs
      have le2 := (foldZ_len1 rs (partsOf rs)).2
      have pl : (partsOf rs).length ≤ 1000 := by
        have h1 : (partsOf rs).length ≤ rs.length := by
          unfold partsOf
          exact Nat.le_trans (List.length_filter_le _ _) (by simp)
        omega
      have there := fun k => ends_there (rs := rs) (k := k)
      have q := q
      unfold zonesOf at q
      generalize foldZ rs (partsOf rs) = st at zs le2 there q
      refine ⟨Db, DN P w Db (iv st.2), zs.b, DN.mut, fun od => ?_⟩
      refine ⟨.ref Db, rfl, Db, od, iv st.2, rfl, upd_same, fun L hL => ?_⟩
      have nL : L ≠ Db := fun z => by rw [z, upd_same] at hL; cases hL
      refine lc_it walk_nk (fun i H' => H' = upd (upd H5 Db (.frz od (DN P w Db (iv st.2)))) L (.lst ((soms (st.2.take i)).map V.int))) rfl (fun i H' _ e => by rw [e, upd_ne nL.symm]; exact upd_same) ?_ ?_
      · rintro i x H6 H7 hi rfl ⟨rfl, kk, vv, hx, rfl⟩
        obtain ⟨⟨o, n⟩, ho, eo⟩ : ∃ z, st.2[i]? = some z ∧ (nk z.1, V.int z.2) = (kk, vv) := by
          unfold iv at hx
          rw [List.getElem?_map] at hx
          cases hz : st.2[i]? with
          | none => rw [hz] at hx; cases hx
          | some z => rw [hz] at hx; exact ⟨z, rfl, Option.some.inj hx⟩
        cases eo
        have sm : soms (st.2.take (i + 1)) = soms (st.2.take i) ++ o.toList := by
          unfold soms
          rw [List.take_add_one, ho]
          cases o <;> simp
        rw [sm]
        refine ⟨rfl, nV (nk o), rfl, rfl, o.isSome, (by cases o <;> rfl), ?_⟩
        cases o with
        | none =>
          show _ = _
          rw [show (none : Option Int).toList = [] from rfl, List.append_nil]
        | some m =>
          refine ⟨nV (nk (some m)), rfl, _, upd_same, ?_, ?_⟩
          · have l1 : (soms (st.2.take i)).length ≤ i := by
              unfold soms
              refine Nat.le_trans (List.length_filterMap_le _ _) ?_
              rw [List.length_map, List.length_take]
              omega
            have l2 : i < st.2.length := by rw [iv_len] at hi; exact hi
            rw [List.length_map]
            exact Nat.lt_of_le_of_lt (Nat.le_trans l1 (show i ≤ 1001 by omega)) (by decide)
          · rw [upd_upd, List.map_append]
            rfl
      · rintro H6 rfl
        have e0 : soms (st.2.take (iv st.2).length) = soms st.2 := by rw [iv_len, List.take_of_length_le (Nat.le_refl _)]
        rw [e0]
        refine ⟨by rw [upd_ne nL.symm]; exact upd_same, ?_⟩
        have bk : upd (upd (upd H5 Db (.frz od (DN P w Db (iv st.2)))) L (.lst ((soms st.2).map V.int))) Db (DN P w Db (iv st.2)) = upd H5 L (.lst ((soms st.2).map V.int)) := by
          funext x
          unfold upd
          by_cases x1 : x = Db
          · subst x1
            rw [if_pos rfl, if_neg nL.symm]
            exact zs.b.symm
          · rw [if_neg x1]
            by_cases x2 : x = L
            · rw [if_pos x2, if_pos x2]
            · rw [if_neg x2, if_neg x2, if_neg x1]
        rw [bk]
        have nL5 : H5 L = none := by rw [upd_ne nL] at hL; exact hL
        refine ⟨L, soms st.2, rfl, SqL.of upd_same, fun ns M perm asc hM => ?_⟩
        obtain rfl := PySem.W.eq_sortI perm asc
        have s8 : Same H5 (upd (upd H5 L (.lst ((soms st.2).map V.int))) M (.lst ((PySem.W.sortI (soms st.2)).map V.int))) := (same_new nL5).trans (same_new hM)
        have zm : upd (upd H5 L (.lst ((soms st.2).map V.int))) M (.lst ((PySem.W.sortI (soms st.2)).map V.int)) M = some (.lst ((putsZ st.2).map V.int)) := upd_same
        have z8 : ZS P w De Db D H1 rs st (upd (upd H5 L (.lst ((soms st.2).map V.int))) M (.lst ((PySem.W.sortI (soms st.2)).map V.int))) := ⟨s8 _ _ zs.e, s8 _ _ zs.b, s8 _ _ zs.d, zs.s.trans s8⟩
        generalize upd (upd H5 L (.lst ((soms st.2).map V.int))) M (.lst ((PySem.W.sortI (soms st.2)).map V.int)) = H8 at zm z8 ⊢
        refine lots_val rfl rfl (by omega) z8.b zm fun L2 H9 s9 hL2 => ?_
        have z9 : ZS P w De Db D H1 rs st H9 := ⟨s9 _ _ z8.e, s9 _ _ z8.b, s9 _ _ z8.d, z8.s.trans s9⟩
        refine ⟨.ref L2, rfl, L2, rfl, ⟨_, SqL.of hL2⟩, fun G hG => ?_⟩
        refine lc_it (walk_list (K := K) (a := L2) (xs := (lotsZ st.2).map oV)) (fun i H' => ∃ qs : List Addr, H' G = some (.lst (qs.map V.ref)) ∧ qs.length = i ∧ Same H9 H' ∧ ∀ (j : Nat) q k, qs[j]? = some q → (lotsZ st.2)[j]? = some k → H' q = some (.tup [oV (zoneZ st k).1, .int (zoneZ st k).2.1, .int (zoneZ st k).2.2])) ⟨[], upd_same, rfl, same_new hG, fun j q k e => by cases e⟩ (fun i H' _ ⟨qs, _, _, s, _⟩ => SqL.of (s _ _ hL2)) ?_ ?_
        · rintro i x H10 H11 hi ⟨qs, hg, lq, s10, all⟩ ⟨rfl, hx⟩
          have hi2 : i < (lotsZ st.2).length := by rw [List.length_map] at hi; exact hi
          obtain ⟨k, hk, rfl⟩ : ∃ k, (lotsZ st.2)[i]? = some k ∧ oV k = x := by
            rw [List.getElem?_map, List.getElem?_eq_getElem hi2] at hx
            exact ⟨_, List.getElem?_eq_getElem hi2, Option.some.inj hx⟩
          have in2 := lots_there (List.mem_of_getElem? hk)
          have in1 := there k in2
          refine ⟨rfl, yes_go ⟨oV k, rfl, .ref De, rfl, oV k, rfl, De, iv st.1, nk k, .int ((getO st.1 k).getD 0), rfl, .inl (s10 _ _ z9.e), (nk_v _).symm, get_val in1, .ref Db, rfl, oV k, rfl, Db, iv st.2, nk k, .int ((getO st.2 k).getD 0), rfl, .inl (s10 _ _ z9.b), (nk_v _).symm, get_val in2, (show 3 ≤ sizeLine by decide), fun T hT => ?_⟩⟩
          have nT : T ≠ G := fun z => by rw [z, hg] at hT; cases hT
          refine ⟨qs.map V.ref, ?_, ?_, qs ++ [T], ?_, ?_, ?_, ?_⟩
          · rw [upd_ne nT.symm]; exact hg
          · have := lotsZ_len st.2
            rw [List.length_map, lq]
            exact Nat.lt_of_le_of_lt (show i ≤ 1002 by omega) (by decide)
          · rw [upd_same, List.map_append]; rfl
          · rw [List.length_append, lq]; rfl
          · exact fun b o e => by
              rw [upd_ne (ne_of_none e hG), upd_ne (ne_of_none (s10 b o e) hT)]
              exact s10 b o e
          · intro j q' k' e1 e2
            by_cases hj : j < qs.length
            · rw [List.getElem?_append_left hj] at e1
              have old := all j q' k' e1 e2
              have n1 : q' ≠ G := fun z => by rw [z, hg] at old; cases old
              rw [upd_ne n1, upd_ne (ne_of_none old hT)]
              exact old
            · have : j = qs.length := by
                have := (List.getElem?_eq_some_iff.mp e1).1
                rw [List.length_append] at this
                simp at this
                omega
              subst this
              rw [List.getElem?_append_right (Nat.le_refl _), Nat.sub_self] at e1
              cases e1
              rw [lq, hk] at e2
              cases e2
              rw [upd_ne nT]
              exact upd_same
        · rintro H10 ⟨qs, hg, lq, s10, all⟩
          refine ⟨G, _, rfl, .inl ⟨SqL.of hg, fun l hl => ?_⟩⟩
          have s11 : Same H10 (upd H10 l (.tup (qs.map V.ref))) := same_new hl
          refine q l _ ((s1.trans z9.s).trans (s10.trans s11)) ⟨qs, upd_same, ?_, fun j q' z e1 e2 => ?_⟩
          · rw [lq, List.length_map, List.length_map]
          · rw [List.getElem?_map] at e2
            cases hk : (lotsZ st.2)[j]? with
            | none => rw [hk] at e2; cases e2
            | some k =>
              rw [hk] at e2
              cases e2
              exact s11 _ _ (all j q' k e1 hk)
end
end K34
end

section
set_option Elab.async false
set_option linter.all false
set_option maxRecDepth 100000
set_option maxHeartbeats 4000000
/-! what draws -/
namespace K34
open PySem L2 KZ
abbrev sWell : Stmt := top 21
abbrev sDraw : Stmt := top 22
abbrev sOne : Stmt := top 23
/-- at p: what draws; its cells at c -/
structure PenAt (H : Hp) (p c : Addr) (cells : List Int) (n : Nat) : Prop where
  ex : ∃ at_ great : Int, H p = some (.lst [.ref c, .int at_, .int great]) ∧ 0 ≤ at_ ∧ at_ ≤ n ∧ 0 ≤ great
  cs : H c = some (.lst (cells.map V.int))
  few : cells.length ≤ 63
  ne : p ≠ c
theorem PenAt.mono {H H' : Hp} {p c : Addr} {cells : List Int} {n m : Nat} (h : PenAt H p c cells n) (e : Same H H') (hn : n ≤ m) : PenAt H' p c cells m := by
  obtain ⟨a, g, h1, h2, h3, h4⟩ := h.ex
  exact ⟨⟨a, g, e _ _ h1, h2, by omega, h4⟩, e _ _ h.cs, h.few, h.ne⟩
/-- all but p is as it was -/
def Kept (p : Addr) (H H' : Hp) : Prop := ∀ b o, b ≠ p → H b = some o → H' b = some o
theorem Kept.trans {p : Addr} {H H1 H2 : Hp} (a : Kept p H H1) (b : Kept p H1 H2) : Kept p H H2 := fun x o hx e => b x o hx (a x o hx e)
theorem Kept.of {p : Addr} {H H1 : Hp} (a : Same H H1) : Kept p H H1 := fun x o _ e => a x o e
def spPen (K : PySem.W.Frag) : Sp := fun vs H Q _ => ∃ (a : Addr) (ns : List Int), vs = [.ref a] ∧ SqL K H a (ns.map V.int) ∧ ns.length ≤ 63 ∧
  ∀ p c cells H', H p = none → H c = none → Same H H' → PenAt H' p c cells 0 → Q (.ref p) H'
def spDraw : Sp := fun vs H Q _ => ∃ (p c : Addr) (cells : List Int) (n : Nat) (m : Int), vs = [.ref p, .int m] ∧ PenAt H p c cells n ∧ n ≤ 10000 ∧ 0 < m ∧ m ≤ 1000000000000 ∧
  ∀ r H', 0 ≤ r → r < m → PenAt H' p c cells (n + 1) → Kept p H H' → Q (.int r) H'
theorem cut63 (ns : List Int) : ∃ cells : List Int, cutV (ns.map V.int) none (some 63) = cells.map V.int ∧ cells.length ≤ ns.length := by
  refine ⟨(ns.drop (HT.sIx (ns.map V.int).length 0 none)).take (HT.sIx (ns.map V.int).length (ns.map V.int).length (some 63) - HT.sIx (ns.map V.int).length 0 none), ?_, ?_⟩
  · unfold cutV
    rw [List.map_take, List.map_drop]
  · rw [List.length_take, List.length_drop]
    omega
section
variable {P : Program} {w : World} {K : PySem.W.Frag} {mg : Str → Option Value} {base : Heap}
theorem scWell : FnScope ["script"] ["script"] (defScope sWell) := ⟨rfl, rfl, rfl, by decide +kernel, rfl, by decide +kernel, by decide +kernel⟩
theorem ok_well {f : Addr} {fd : FuncData} (F : Fun K "_law_well" "_law_well" sWell f fd) (T : B1 mg) : FnOk P w K mg base CX0 1 f fd ["script"] (spPen K) := by
  refine F.ok scWell (fun vs H Q E h => ?_) (fun cdv A outer s H vs Q E hr h => ?_)
  · obtain ⟨a, ns, rfl, _⟩ := h
    rfl
  · obtain ⟨a, ns, rfl, hs, hl, q⟩ := h
    refine ⟨_, pss_one (ps_ret (pe_lst (pa_cons (pe_callTy call_list_of (by rfl) T.list (by decide +kernel) (pa_cons (pe_slice sl_list (pv 0) po_none (po_some pe_int)) pa_nil)) (pa_cons pe_int (pa_cons pe_int pa_nil))))), ?_⟩
    obtain ⟨cells, hc, hcl⟩ := cut63 ns
    refine ⟨_, rfl, 63, rfl, a, _, rfl, hs, fun l hn => ⟨l, _, rfl, .inl (SqL.of upd_same), fun D hD => ⟨by show 3 ≤ sizeLine; decide, fun p hp => ?_⟩⟩⟩
    rw [hc] at hD hp ⊢
    have hlD : l ≠ D := fun z => by
      rw [← z, upd_same] at hD
      cases hD
    have hDn : H D = none := by
      rw [upd_ne (Ne.symm hlD)] at hD
      exact hD
    have hpD : p ≠ D := fun z => by
      rw [z, upd_same] at hp
      cases hp
    have hpl : p ≠ l := fun z => by
      rw [z, upd_ne hlD, upd_same] at hp
      cases hp
    have hpn : H p = none := by
      rw [upd_ne hpD, upd_ne hpl] at hp
      exact hp
    exact q p D cells _ hpn hDn ((same_new hn).trans ((same_new (show (upd H l (.lst (cells.map V.int))) D = none from by rw [upd_ne (Ne.symm hlD)]; exact hDn)).trans (same_new hp))) ⟨⟨0, 0, upd_same, by decide, by decide, by decide⟩, by rw [upd_ne (Ne.symm hpD), upd_same], Nat.le_trans hcl hl, hpD⟩
theorem dp_ints {H : Hp} : ∀ (l : List Int), DpAll K H (l.map V.int) (l.map PyData.int)
  | [] => .nil
  | i :: r => .cons (.int i) (dp_ints r)
theorem can_ints : ∀ l : List Int, PyData.canLayAll0 (l.map PyData.int) = true
  | [] => rfl
  | i :: r => by
    show (PyData.canLay0 (.int i) && PyData.canLayAll0 (r.map PyData.int)) = true
    rw [can_ints r]
    rfl
theorem depth_ints : ∀ l : List Int, PyData.depthAll (l.map PyData.int) = 0
  | [] => rfl
  | i :: r => by
    show max (PyData.depth (.int i)) (PyData.depthAll (r.map PyData.int)) = 0
    rw [depth_ints r]
    rfl
theorem shaped_ints (l : List Int) : SeqAt.shaped (.list (l.map PyData.int)) = true := by
  unfold SeqAt.shaped
  have h1 : PyData.canLay0 (.list (l.map PyData.int)) = true := can_ints l
  have h2 : PyData.depth (.list (l.map PyData.int)) ≤ 64 := by
    show PyData.depthAll (l.map PyData.int) + 1 ≤ 64
    rw [depth_ints]
    decide
  rw [h1, decide_eq_true h2]
  rfl
theorem eqv_nil (l : List Int) : PyData.eqv (.list (l.map PyData.int)) (.list []) = l.isEmpty := by
  cases l <;> rfl
theorem scDraw : FnScope ["well", "many", "digit", "turn", "cell", "great", "mixed"] ["well", "many"] (defScope sDraw) := ⟨rfl, rfl, rfl, by decide +kernel, rfl, by decide +kernel, by decide +kernel⟩
theorem pow_b {x : Int} {b : Nat} (h1 : 0 ≤ x) (h2 : x < 2 ^ 63) : CPow x (b : Int) ↔ (b ≤ 1000000) := by
  unfold CPow
  constructor
  · rintro ⟨_, h, _⟩
    omega
  · intro h
    refine ⟨by omega, by omega, ?_⟩
    omega
theorem if_setI {b : Bool} {te : TE} {i : Nat} {D : Ends} {σ : L2.St} {H : Hp} (h1 : b = true → ∀ Q : VK, (∀ z : Int, Q (.int z) H) → te σ H Q) (h0 : ∃ z0 : Int, σ = σ.set i (some (.int z0))) (rest : ∀ z : Int, D.nx (σ.set i (some (.int z))) H) :
    if b = true then tAsg te (gName i) D σ H else D.nx σ H := by
  cases b with
  | true => exact iteT (h1 rfl _ fun z => rest z)
  | false =>
    obtain ⟨z0, e⟩ := h0
    rw [e]
    exact iteF (rest z0)
theorem if_and {t u : TT} {s1 s2 : TS} {D : Ends} {σ : L2.St} {H : Hp} (b1 b2 : Bool) (h1 : ∀ Q : Bool → Hp → Prop, Q b1 H → t σ H Q) (h2 : b1 = true → ∀ Q : Bool → Hp → Prop, Q b2 H → u σ H Q) (tail : s2 D σ H) (go : b1 = true → b2 = true → s1 { D with nx := s2 D } σ H) :
    tSeq (tIfS (tAnd t u) s1 tNext) s2 D σ H := by
  refine h1 _ ?_
  cases b1 with
  | false => exact iteF (iteF tail)
  | true =>
    refine iteT (h2 rfl _ ?_)
    cases b2 with
    | false => exact iteF tail
    | true => exact iteT (go rfl rfl)
theorem ok_draw {f : Addr} {fd : FuncData} (F : Fun K "_law_draw" "_law_draw" sDraw f fd) (T : B1 mg) : FnOk P w K mg base CX0 1 f fd ["well", "many"] spDraw := by
  refine F.ok scDraw (fun vs H Q E h => ?_) (fun cdv A outer s H vs Q E hr h => ?_)
  · obtain ⟨p, c, cells, n, m, rfl, _⟩ := h
    rfl
  · obtain ⟨p, c, cells, n, m, rfl, pen, hn, hm0, hm1, q⟩ := h
    obtain ⟨at_, gr, hp, ha0, ha1, hg0⟩ := pen.ex
    have hcs := pen.cs
    have npc := pen.ne
    have hlog : m.natAbs.log2 < 9000 := (Nat.log2_lt (by omega)).mpr (Nat.lt_of_lt_of_le (show m.natAbs < 2 ^ 40 by omega) (Nat.pow_le_pow_right (by decide) (by decide)))
    refine ⟨_, (pss_cons (ps_if (pt_cmpR op_gt (pe_ix ix_list (pv 0) pe_int (fun _ _ => rfl)) pe_int (nomark _))
(pss_cons (ps_set (i := 2) scDraw.nd rfl (Or.inl rfl) (pe_op op_mod (pe_callTy call_int1 (by rfl) T.int (by decide +kernel) (pa_cons (pe_ix ix_list (pv 0) pe_int (fun _ _ => rfl)) pa_nil)) (pv 1)))
(pss_cons (ps_asg (pe_op op_fdivW (pe_callTy call_int1 (by rfl) T.int (by decide +kernel) (pa_cons (pe_ix ix_list (pv 0) pe_int (fun _ _ => rfl)) pa_nil)) (pv 1)) (pg_sub (pv 0) pe_int set_list))
(pss_one (ps_ret (pv 2)))))
pss_nil)
(pss_cons (ps_set (i := 3) scDraw.nd rfl (Or.inl rfl) (pe_ix ix_list (pv 0) pe_int (fun _ _ => rfl)))
(pss_cons (ps_asg (pe_op op_add (pv 3) pe_int) (pg_sub (pv 0) pe_int set_list))
(pss_cons (ps_set (i := 4) scDraw.nd rfl (Or.inl rfl) (pe_op op_add (pe_op op_mul pe_int (pv 3)) pe_int))
(pss_cons (ps_if (pt_cmpR (op_neD hr.units) (pe_ix ix_list (pv 0) pe_int (fun _ _ => rfl)) (pe_lst pa_nil) (nomark _))
(pss_one (ps_set (i := 4) scDraw.nd rfl (Or.inl rfl) (pe_ix ix_list (pe_ix ix_list (pv 0) pe_int (fun _ _ => rfl)) (pe_op op_mod (pe_callTy call_int1 (by rfl) T.int (by decide +kernel) (pa_cons (pv 3) pa_nil)) (pe_callB call_len (by rfl) T.len PySem.boot_len (pa_cons (pe_ix ix_list (pv 0) pe_int (fun _ _ => rfl)) pa_nil))) (fun _ _ => rfl))))
pss_nil)
(pss_cons (ps_if (PW.pt (pw_and (pt_cmpR op_lt (pv 3) (pe_callB call_len (by rfl) T.len PySem.boot_len (pa_cons (pe_ix ix_list (pv 0) pe_int (fun _ _ => rfl)) pa_nil)) (nomark _)) (pw_and1 (pt_cmpR op_ge (pe_callB call_abs (by rfl) T.abs (by decide +kernel) (pa_cons (pv 4) pa_nil)) (pe_op op_pow pe_int pe_int) (nomark _)))))
(pss_cons (ps_set (i := 5) scDraw.nd rfl (Or.inl rfl) (pe_op op_add (pe_op op_mul pe_int (pe_op op_sub (pe_callB call_abs (by rfl) T.abs (by decide +kernel) (pa_cons (pv 4) pa_nil)) (pe_op op_pow pe_int pe_int))) (pe_callTy call_int1 (by rfl) T.int (by decide +kernel) (pa_cons (pe_cmpR op_lt (pv 4) pe_int (nomark _)) pa_nil))))
(pss_cons (ps_asg (pe_op op_fdivW (pe_callTy call_int1 (by rfl) T.int (by decide +kernel) (pa_cons (pv 5) pa_nil)) (pv 1)) (pg_sub (pv 0) pe_int set_list))
(pss_one (ps_ret (pe_op op_mod (pe_callTy call_int1 (by rfl) T.int (by decide +kernel) (pa_cons (pv 5) pa_nil)) (pv 1))))))
pss_nil)
(pss_cons (ps_set (i := 6) scDraw.nd rfl (Or.inl rfl) (pe_op op_mod (pe_callTy call_int1 (by rfl) T.int (by decide +kernel) (pa_cons (pe_op op_pow (pe_op op_add (pe_op op_add (pe_op op_mod (pe_callTy call_int1 (by rfl) T.int (by decide +kernel) (pa_cons (pv 4) pa_nil)) pe_int) (pe_op op_mul pe_int (pv 3))) pe_int) pe_int) pa_nil)) pe_int))
(pss_cons (ps_set (i := 6) scDraw.nd rfl (Or.inl rfl) (pe_op op_mod (pe_callTy call_int1 (by rfl) T.int (by decide +kernel) (pa_cons (pe_op op_pow (pe_op op_add (pe_op op_add (pe_op op_mul (pv 6) (pe_op op_add (pe_op op_mul pe_int (pv 3)) pe_int)) (pe_op op_mul (pe_op op_mul pe_int (pv 3)) (pv 3))) pe_int) pe_int) pa_nil)) pe_int))
(pss_one (ps_ret (pe_op op_mod (pe_callTy call_int1 (by rfl) T.int (by decide +kernel) (pa_cons (pe_op op_fdiv (pv 6) pe_int) pa_nil)) (pv 1)))))))))))), ?_⟩
    have i2 : atI [V.ref c, V.int at_, V.int gr] 2 = some (V.int gr) := rfl
    have i1 : atI [V.ref c, V.int at_, V.int gr] 1 = some (V.int at_) := rfl
    have i0 : ∀ z, atI [V.ref c, V.int z, V.int gr] 0 = some (V.ref c) := fun _ => rfl
    refine ⟨_, rfl, p, _, 2, _, rfl, rfl, SqL.of hp, i2, gr, 0, rfl, rfl, _, rfl, ?_⟩
    refine ite2 (fun hg => ?_) (fun hg => ?_)
    · have hg' : 0 < gr := of_decide_eq_true hg
      refine ⟨_, rfl, p, _, 2, _, rfl, rfl, SqL.of hp, i2, .inl ⟨gr, rfl, _, rfl, gr, m, rfl, rfl, hm0, ?_⟩⟩
      refine ⟨_, rfl, p, _, 2, _, rfl, rfl, SqL.of hp, i2, .inl ⟨gr, rfl, _, rfl, gr, m, rfl, rfl, ⟨hm0, hlog⟩, ?_⟩⟩
      refine ⟨_, rfl, p, _, 2, 2, rfl, rfl, hp, rfl, _, rfl, ?_⟩
      refine q (gr % m) _ (Int.emod_nonneg _ (by omega)) (Int.emod_lt_of_pos _ hm0) ⟨⟨at_, gr / m, upd_same, ha0, by omega, Int.ediv_nonneg hg0 (by omega)⟩, by rw [upd_ne (Ne.symm npc)]; exact hcs, pen.few, npc⟩ (fun b o hb e => by rw [upd_ne hb]; exact e)
    · have hg' : gr = 0 := by
        have : ¬ 0 < gr := fun z => hg (decide_eq_true z)
        omega
      refine ⟨_, rfl, p, _, 1, _, rfl, rfl, SqL.of hp, i1, ?_⟩
      refine ⟨_, rfl, at_, 1, rfl, rfl, _, rfl, p, _, 1, 1, rfl, rfl, hp, rfl, ?_⟩
      obtain ⟨H1, hH1⟩ : ∃ H1, H1 = upd H p (.lst [V.ref c, V.int (at_ + 1), V.int gr]) := ⟨_, rfl⟩
      have h1p : H1 p = some (.lst [V.ref c, V.int (at_ + 1), V.int gr]) := by rw [hH1, upd_same]
      have h1c : H1 c = some (.lst (cells.map V.int)) := by rw [hH1, upd_ne (Ne.symm npc)]; exact hcs
      have k1 : Kept p H H1 := fun b o hb e => by rw [hH1, upd_ne hb]; exact e
      show _
      rw [show upd H p (HO.lst ([V.ref c, V.int at_, V.int gr].set 1 (V.int (at_ + 1)))) = H1 from hH1.symm]
      refine ⟨_, rfl, 51407, at_, rfl, rfl, .inl ⟨by decide, by decide⟩, _, _, rfl, rfl, ?_⟩
      refine ⟨_, rfl, p, _, 0, _, rfl, rfl, SqL.of h1p, rfl, Nat.zero_le _, fun l hl => ?_⟩
      have k2 : Same H1 (upd H1 l (.lst [])) := same_new hl
      refine ⟨_, _, Dp.lst (SqL.of (k2 _ _ h1c)) (dp_ints cells), Dp.lst (SqL.of upd_same) .nil, shaped_ints cells, by decide +kernel, _, rfl, ?_⟩
      -- behind the cell is taken
      obtain ⟨H2, hH2⟩ : ∃ H2, H2 = upd H1 l (.lst []) := ⟨_, rfl⟩
      rw [← hH2] at k2 ⊢
      have h2p := k2 _ _ h1p
      have h2c := k2 _ _ h1c
      have k3 : Kept p H H2 := k1.trans (Kept.of k2)
      have fin : ∀ (gr' : Int) (H3 : Hp), 0 ≤ gr' → H3 = upd H2 p (.lst [V.ref c, V.int (at_ + 1), V.int gr']) ∨ (H3 = H2 ∧ gr' = gr) → PenAt H3 p c cells (n + 1) ∧ Kept p H H3 := fun gr' H3 g0 e => by
        rcases e with e | ⟨e, e'⟩
        · rw [e]
          exact ⟨⟨⟨_, gr', upd_same, by omega, by omega, g0⟩, by rw [upd_ne (Ne.symm npc)]; exact h2c, pen.few, npc⟩, fun b o hb z => by rw [upd_ne hb]; exact k3 b o hb z⟩
        · rw [e]
          exact ⟨⟨⟨_, gr, h2p, by omega, by omega, hg0⟩, h2c, pen.few, npc⟩, k3⟩
      refine if_setI (fun hb Q' k => ?_) ⟨_, rfl⟩ (fun z => ?_)
      · have hne : cells ≠ [] := fun e => by
          rw [eqv_nil, e] at hb
          cases hb
        have hl0 : 0 < cells.length := List.length_pos_iff.mpr hne
        have hr0 : 0 ≤ at_ % (cells.length : Int) := Int.emod_nonneg _ (by omega)
        have hr1 : at_ % (cells.length : Int) < cells.length := Int.emod_lt_of_pos _ (by omega)
        obtain ⟨j, hj⟩ : ∃ j : Nat, at_ % (cells.length : Int) = j := ⟨_, (Int.toNat_of_nonneg hr0).symm⟩
        have hjl : j < cells.length := by omega
        refine ⟨_, rfl, p, _, 0, _, rfl, rfl, SqL.of h2p, rfl, _, rfl, .inl ⟨at_, rfl, _, rfl, p, _, 0, _, rfl, rfl, SqL.of h2p, rfl, .ref c, cells.length, rfl, .inl ⟨_, SqL.of h2c, by rw [List.length_map]⟩, at_, cells.length, rfl, rfl, by omega, ?_⟩⟩
        refine ⟨c, _, _, .int (cells[j]'hjl), rfl, rfl, SqL.of h2c, ?_, k _⟩
        rw [hj]
        exact atI_nat (by simp [hjl])
      · dsimp only
        refine if_and (decide (at_ < (cells.length : Int))) (decide ((10 : Int) ^ (18 : Int).toNat ≤ (if z < 0 then -z else z))) (fun Q' k => ?_) (fun _ Q' k => ?_) ?_ (fun _ hbig => ?_)
        · exact ⟨_, rfl, _, rfl, p, _, 0, _, rfl, rfl, SqL.of h2p, rfl, .ref c, cells.length, rfl, .inl ⟨_, SqL.of h2c, by rw [List.length_map]⟩, at_, cells.length, rfl, rfl, _, rfl, k⟩
        · exact ⟨_, rfl, z, rfl, 10, 18, rfl, rfl, ⟨by decide, by decide, by decide⟩, _, _, rfl, rfl, _, rfl, k⟩
        · have b0 : 0 ≤ z % 2147483629 := Int.emod_nonneg _ (by decide)
          have b1 : z % 2147483629 < 2147483629 := Int.emod_lt_of_pos _ (by decide)
          have b2 : at_ ≤ 10000 := by omega
          refine ⟨_, rfl, .inl ⟨z, rfl, z, 2147483629, rfl, rfl, (show (0 : Int) < 2147483629 by decide), _, rfl, 70121, at_, rfl, rfl, .inl ⟨by decide, by decide⟩, _, _, rfl, rfl, _, _, rfl, rfl, _, 5, rfl, rfl, ⟨by decide, by decide, by omega⟩, .inl ⟨_, rfl, _, 2147483587, rfl, rfl, (show (0 : Int) < 2147483587 by decide), ?_⟩⟩⟩
          dsimp only
          generalize (z % 2147483629 + 70121 * at_ + 911) ^ (5 : Int).toNat = big1
          have c0 : 0 ≤ big1 % 2147483587 := Int.emod_nonneg _ (by decide)
          have c1 : big1 % 2147483587 < 2147483587 := Int.emod_lt_of_pos _ (by decide)
          generalize hmx : big1 % 2147483587 = mx at c0 c1 ⊢
          have c2 : 0 ≤ mx * (2 * at_ + 407) := Int.mul_nonneg c0 (by omega)
          have c3 : mx * (2 * at_ + 407) ≤ 2147483587 * 20407 := Int.mul_le_mul (by omega) (by omega) (by omega) (by decide)
          have c4 : 0 ≤ 51131 * at_ * at_ := Int.mul_nonneg (by omega) ha0
          have c5 : 51131 * at_ * at_ ≤ 511310000 * 10000 := Int.mul_le_mul (by omega) b2 ha0 (by decide)
          refine ⟨_, rfl, _, rfl, 2, at_, rfl, rfl, .inl ⟨by decide, by decide⟩, _, _, rfl, rfl, mx, _, rfl, rfl, .inl ⟨by omega, by omega⟩, _, rfl, 51131, at_, rfl, rfl, .inl ⟨by decide, by decide⟩, _, rfl, _, at_, rfl, rfl, .inl ⟨by omega, by omega⟩, _, _, rfl, rfl, _, _, rfl, rfl, _, 3, rfl, rfl, ⟨by decide, by decide, by omega⟩, .inl ⟨_, rfl, _, 2147483489, rfl, rfl, (show (0 : Int) < 2147483489 by decide), ?_⟩⟩
          dsimp only
          generalize (mx * (2 * at_ + 407) + 51131 * at_ * at_ + 77) ^ (3 : Int).toNat = big2
          refine ⟨_, rfl, _, 32, rfl, rfl, ⟨by decide, by decide⟩, .inl ⟨_, rfl, _, rfl, _, m, rfl, rfl, hm0, ?_⟩⟩
          obtain ⟨f1, f2⟩ := fin gr H2 hg0 (.inr ⟨rfl, rfl⟩)
          exact q _ _ (Int.emod_nonneg _ (by omega)) (Int.emod_lt_of_pos _ hm0) f1 f2
        · have hz0 : ∀ b : Bool, (0 : Int) ≤ 2 * ((if z < 0 then -z else z) - 10 ^ (18 : Int).toNat) + (if b = true then 1 else 0) := fun b => by
            have h1 : (10 : Int) ^ (18 : Int).toNat ≤ (if z < 0 then -z else z) := of_decide_eq_true hbig
            have h2 : (0 : Int) ≤ (if b = true then 1 else 0) := by cases b <;> decide
            omega
          refine ⟨_, rfl, z, rfl, 10, 18, rfl, rfl, ⟨by decide, by decide, by decide⟩, _, _, rfl, rfl, 2, _, rfl, rfl, .inl ⟨by decide, by decide⟩, _, rfl, z, 0, rfl, rfl, .inr ⟨_, rfl, _, _, rfl, rfl, ?_⟩⟩
          dsimp only
          have hz1 := hz0 (decide (z < 0))
          generalize 2 * ((if z < 0 then -z else z) - 10 ^ (18 : Int).toNat) + (if decide (z < 0) = true then 1 else 0) = gg at hz1 ⊢
          refine ⟨_, rfl, .inl ⟨gg, rfl, _, rfl, gg, m, rfl, rfl, ⟨hm0, hlog⟩, _, rfl, p, _, 2, 2, rfl, rfl, h2p, rfl, _, rfl, .inl ⟨gg, rfl, _, rfl, gg, m, rfl, rfl, hm0, ?_⟩⟩⟩
          obtain ⟨f1, f2⟩ := fin (gg / m) _ (Int.ediv_nonneg hz1 (by omega)) (.inl rfl)
          exact q _ _ (Int.emod_nonneg _ (by omega)) (Int.emod_lt_of_pos _ hm0) f1 f2
theorem scOne : FnScope ["well", "some"] ["well", "some"] (defScope sOne) := ⟨rfl, rfl, rfl, by decide +kernel, rfl, by decide +kernel, by decide +kernel⟩
def spOne : Sp := fun vs H Q _ => ∃ (p c s : Addr) (cells : List Int) (n : Nat) (xs : List V), vs = [.ref p, .ref s] ∧ PenAt H p c cells n ∧ n ≤ 10000 ∧ H s = some (.lst xs) ∧ s ≠ p ∧ 0 < xs.length ∧ xs.length ≤ 100 ∧
  ∀ (i : Nat) (x : V) H', xs[i]? = some x → PenAt H' p c cells (n + 1) → Kept p H H' → Q x H'
theorem ok_one {f fD : Addr} {fd dD : FuncData} (F : Fun K "_law_one" "_law_one" sOne f fd) (T : B1 mg) (gD : mg "_law_draw" = some (.ref fD)) (FD : Fun K "_law_draw" "_law_draw" sDraw fD dD) (bD : Binds K dD ["well", "many"] []) : FnOk P w K mg base CX0 2 f fd ["well", "some"] spOne := by
  have GD : FnOk P w K mg base CX0 1 fD dD ["well", "many"] spDraw := ok_draw FD T
  refine F.ok scOne (fun vs H Q E h => ?_) (fun cdv A outer s H vs Q E hr h => ?_)
  · obtain ⟨p, c, s, cells, n, xs, rfl, _⟩ := h
    rfl
  · obtain ⟨p, c, s, cells, n, xs, rfl, pen, hn, hs, nsp, hx0, hx1, q⟩ := h
    refine ⟨_, (pss_one (ps_ret (pe_ix (ix_seqK K) (pv 1) (pe_call GD hr (by rfl) gD FD.kp bD .nil pass0 (pa_cons (pv 0) (pa_cons (pe_callB call_len (by rfl) T.len PySem.boot_len (pa_cons (pv 1) pa_nil)) pa_nil))) (fun _ _ => rfl)))), ?_⟩
    refine ⟨_, rfl, _, rfl, _, rfl, .ref s, xs.length, rfl, .inl ⟨xs, SqL.of hs, rfl⟩, p, c, cells, n, xs.length, rfl, pen, hn, by omega, by omega, fun r H' r0 r1 pen' kp => ?_⟩
    obtain ⟨j, hj⟩ : ∃ j : Nat, r = j := ⟨_, (Int.toNat_of_nonneg r0).symm⟩
    have hjl : j < xs.length := by omega
    have e : xs[j]? = some (xs[j]'hjl) := List.getElem?_eq_getElem hjl
    exact Sq.ix (.inl (SqL.of (kp s _ nsp hs))) (by rw [hj]; exact atI_nat e) (q j _ H' e pen' kp)
end
end K34
end

section
set_option Elab.async false
set_option linter.all false
set_option maxRecDepth 100000
set_option maxHeartbeats 4000000
/-! the law's rows -/
namespace K34
open PySem L2 KZ
abbrev sMade : Stmt := top 25
abbrev sLParts : Stmt := top 26
def rowV (r : Row) : List V := [.str r.c, .str (wd r.g), .int r.b, oV r.e, oV r.t]
def RowAt (H : Hp) (p : Addr) (r : Row) : Prop := H p = some (.tup (rowV r))
/-- a list of rows -/
def RowsAt (H : Hp) (a : Addr) (rs : List Row) : Prop := ∃ ps : List Addr, H a = some (.lst (ps.map V.ref)) ∧ ps.length = rs.length ∧ ∀ (i : Nat) p r, ps[i]? = some p → rs[i]? = some r → RowAt H p r
theorem RowsAt.mono {H H' : Hp} {a : Addr} {rs : List Row} (s : Same H H') (h : RowsAt H a rs) : RowsAt H' a rs := by
  obtain ⟨ps, h1, h2, h3⟩ := h
  exact ⟨ps, s _ _ h1, h2, fun i p r e1 e2 => s _ _ (h3 i p r e1 e2)⟩
theorem oD_dv {K : PySem.W.Frag} {H : Hp} (o : Option Int) : Dv K H (oV o) (oD o) := by
  cases o with
  | none => exact .non
  | some i => exact .int i
def spMade (C : Addr) : Sp := fun vs H Q _ => ∃ t r, vs = [.ref t] ∧ RowAt H t r ∧ r.Ok ∧ r.c.length ≤ 1000 ∧ ∀ x H', H x = none → Same H H' → AskAt C H' x r → Q (.ref x) H'
section
variable {P : Program} {w : World} {K : PySem.W.Frag} {mg : Str → Option Value} {base : Heap} {fI C cB : Addr} {dI : FuncData}
theorem scMade : FnScope ["row"] ["row"] (defScope sMade) := ⟨rfl, rfl, rfl, by decide +kernel, rfl, by decide +kernel, by decide +kernel⟩
theorem ok_made {f : Addr} {fd : FuncData} (F : Fun K "_law_made" "_law_made" sMade f fd) (A : AskC K mg C) (M : Mk K C fI) (GI : FnOk P w K mg base (L2.CX P w) 8 fI dI ["self", "client", "word", "begun", "ended", "told"] (spInit K C cB)) (bI : Binds K dI ["self", "client", "word", "begun", "ended", "told"] []) :
    FnOk P w K mg base (L2.CX P w) 10 f fd ["row"] (spMade C) := by
  refine F.okX scMade (fun vs H Q E h => ?_) (fun cdv A' outer s H vs Q E hr h => ?_)
  · obtain ⟨t, r, rfl, _⟩ := h
    rfl
  · obtain ⟨t, r, rfl, ht, ok, cl, q⟩ := h
    refine ⟨_, pss_one (ps_ret (pe_make M GI hr (by rfl) A.mg bI .nil (passes_call (takes_of rfl rfl rfl rfl) fun _ _ _ _ z => z) (pa_cons (pe_ix (ix_seqK K) (pv 0) pe_int (fun _ _ => rfl)) (pa_cons (pe_ix (ix_seqK K) (pv 0) pe_int (fun _ _ => rfl)) (pa_cons (pe_ix (ix_seqK K) (pv 0) pe_int (fun _ _ => rfl)) (pa_cons (pe_ix (ix_seqK K) (pv 0) pe_int (fun _ _ => rfl)) (pa_cons (pe_ix (ix_seqK K) (pv 0) pe_int (fun _ _ => rfl)) pa_nil))))))), ?_⟩
    have sq : Sq K H t (rowV r) := .inr (SqT.of ht)
    refine ⟨.ref t, rfl, Sq.ix sq rfl ⟨.ref t, rfl, Sq.ix sq rfl ⟨.ref t, rfl, Sq.ix sq rfl ⟨.ref t, rfl, Sq.ix sq rfl ⟨.ref t, rfl, Sq.ix sq rfl ?_⟩⟩⟩⟩⟩
    refine fun x dx hx hdx ne => ?_
    have s1 : Same H (upd H dx (.own x)) := same_new hdx
    have s2 : Same H (upd (upd H dx (.own x)) x (.ins C dx [])) := s1.trans (same_new (by rw [upd_ne ne.symm]; exact hx))
    refine ⟨x, dx, _, .str r.c, _, .str (wd r.g), _, .int r.b, _, oD r.e, _, oD r.t, rfl, upd_same, .str _, (fun y e => by cases e; exact cl), .str _, rfl, (by cases r.g <;> decide +kernel), .int _, oD_dv _, oD_dv _, ?_, ?_⟩
    · intro r' ok' e1 e2 e3 e4 e5 H' keep ask
      obtain rfl : r' = r := by
        obtain ⟨c1, g1, b1, e1', t1⟩ := r
        obtain ⟨c2, g2, b2, e2', t2⟩ := r'
        have h1 : c1 = c2 := PyData.str.inj e1
        have h2 : g1 = g2 := by
          have h : wd g1 = wd g2 := PyData.str.inj e2
          clear e1 e2 e3 e4 e5 ok ok' ht q keep ask
          cases g1 <;> cases g2
          · rfl
          · exact absurd h (show ¬ wd false = wd true by decide +kernel)
          · exact absurd h (show ¬ wd true = wd false by decide +kernel)
          · rfl
        have h3 : b1 = b2 := PyData.int.inj e3
        have h4 : e1' = e2' := by
          cases e1' <;> cases e2' <;> first | rfl | (cases e4; done) | (cases e4; rfl)
        have h5 : t1 = t2 := by
          cases t1 <;> cases t2 <;> first | rfl | (cases e5; done) | (cases e5; rfl)
        rw [h1, h2, h3, h4, h5]
      exact ⟨rfl, q x H' hx (fun b o e => keep b o (ne_of_none e hx) (s2 b o e)) ask⟩
    · intro p h
      rw [bad_of ok] at h
      cases h
theorem op_in_seqK {X : Cx} (K : PySem.W.Frag) (h : X.K = K := by rfl) : OpR X (compareOp .In) (rIn K false) := by subst h; exact op_in_seq
theorem pg_tupK {X : Cx} {es : List Expr} {k : Nat} {pos : Pos} {t : TGs} {n : Nat} (K : PySem.W.Frag) (hc : X.calm = true) (h : PGs X es t) (hK : X.K = K := by rfl) (hn : (assignEach es X.env).length = n := by rfl) (hst : (assignEach es X.env).findIdx? (·.1) = none := by rfl) : PG X (.Tuple es k pos) (gTup K n t) := by
  subst hK
  exact pg_tup hc h hn hst
theorem scLParts : FnScope ["rows", "told", "row", "at"] ["rows"] (defScope sLParts) := ⟨rfl, rfl, rfl, by decide +kernel, rfl, by decide +kernel, by decide +kernel⟩
def toldI (rs : List Row) : List Int := rs.filterMap (·.t)
theorem told_any {rs : List Row} (ok : ∀ r ∈ rs, r.Ok) (i : Int) : isTold rs (some i) = (toldI rs).any fun j => decide (j = i) := by
  unfold isTold toldI
  rw [Bool.eq_iff_iff, List.any_eq_true, List.any_eq_true]
  constructor
  · rintro ⟨r, m, h⟩
    rw [Bool.and_eq_true] at h
    exact ⟨i, List.mem_filterMap.mpr ⟨r, m, of_decide_eq_true h.2⟩, decide_eq_true rfl⟩
  · rintro ⟨j, m, h⟩
    obtain ⟨r, mr, e⟩ := List.mem_filterMap.mp m
    obtain rfl := of_decide_eq_true h
    obtain ⟨g1, g2, _⟩ := (ok r mr).tg j e
    refine ⟨r, mr, ?_⟩
    rw [Bool.and_eq_true]
    refine ⟨?_, decide_eq_true e⟩
    unfold tells
    rw [g1]
    cases he : r.e with
    | none => exact absurd he g2
    | some x => rfl
theorem part_any {rs : List Row} (ok : ∀ r ∈ rs, r.Ok) (nb : firstBad rs = none) {i : Nat} {r : Row} (hr : rs[i]? = some r) : isPart rs i = (r.e.isSome || (toldI rs).any fun j => decide (j = (i : Int))) := by
  unfold isPart
  rw [hr]
  show (r.e.isSome || (!r.g && isTold rs (some (i : Int)))) = _
  rw [told_any ok]
  cases h : (toldI rs).any fun j => decide (j = (i : Int)) with
  | false => rw [Bool.and_false]
  | true =>
    obtain ⟨j, m, e⟩ := List.any_eq_true.mp h
    obtain rfl := of_decide_eq_true e
    obtain ⟨q, mq, eq⟩ := List.mem_filterMap.mp m
    obtain ⟨n, hn, en⟩ := List.mem_iff_getElem.mp mq
    unfold firstBad at nb
    rw [List.find?_range_eq_none] at nb
    have := nb n hn
    unfold badAt at this
    rw [List.getElem?_eq_getElem hn, en] at this
    have this : (!(match q.t with
      | none => false
      | some j => decide ((rs.length : Int) ≤ j) || (match rs[j.toNat]? with
        | some r => r.g
        | none => true))) = true := this
    rw [eq] at this
    have e2 : rs[((i : Int)).toNat]? = some r := hr
    have this : (!(decide ((rs.length : Int) ≤ (i : Int)) || (match rs[((i : Int)).toNat]? with
      | some r => r.g
      | none => true))) = true := this
    rw [e2] at this
    have this : (!(decide ((rs.length : Int) ≤ (i : Int)) || r.g)) = true := this
    have g0 : r.g = false := by
      cases hg : r.g with
      | false => rfl
      | true => rw [hg, Bool.or_true] at this; cases this
    rw [g0]
    rfl
def spLParts : Sp := fun vs H Q _ => ∃ a rs, vs = [.ref a] ∧ RowsAt H a rs ∧ rs.length ≤ 1000 ∧ (∀ r ∈ rs, r.Ok) ∧ firstBad rs = none ∧ ∀ p H', Same H H' → H' p = some (.tup (nats (partsOf rs))) → Q (.ref p) H'
theorem ok_lparts {f : Addr} {fd : FuncData} (F : Fun K "_law_parts" "_law_parts" sLParts f fd) (T : B1 mg) : FnOk P w K mg base CX0 1 f fd ["rows"] spLParts := by
  refine F.ok scLParts (fun vs H Q E h => ?_) (fun cdv A' outer s H vs Q E hr h => ?_)
  · obtain ⟨a, rs, rfl, _⟩ := h
    rfl
  · obtain ⟨a, rs, rfl, hh, hl, ok, nb, q⟩ := h
    refine ⟨_, (pss_cons (ps_set (i := 1) scLParts.nd rfl (Or.inr rfl) (pe_lc (own := [("row", 2)]) (g := gName 2) (by rfl) scLParts.nd (pi_list (pv 0)) (blkOk_by (own := [("row", 2)]) (N := ["rows", "told", "row", "at"]) (sc := defScope sLParts) (by decide +kernel)) (fun _ _ _ _ _ => pg_name (i := 2) scLParts.nd rfl (Or.inl rfl)) (fun _ _ _ _ _ => pts_one (pt_cmpR op_notN (pe_ix (ix_seqK K) (pv 2) pe_int (fun _ _ => rfl)) pe_non (nomark _))) (fun _ _ _ _ _ => pe_ix (ix_seqK K) (pv 2) pe_int (fun _ _ => rfl))))
(pss_one (ps_ret (pe_callTy call_tuple_of (by rfl) T.tuple (by decide +kernel) (pa_cons (pe_lc (own := [("at", 3), ("row", 2)]) (by rfl) scLParts.nd (pi_enum (by rfl) T.enum (pa_cons (pv 0) pa_nil)) (blkOk_by (own := [("at", 3), ("row", 2)]) (N := ["rows", "told", "row", "at"]) (sc := defScope sLParts) (by decide +kernel)) (fun _ _ _ _ _ => pg_tupK (n := 2) K rfl ((pgs_cons (pg_name (i := 3) scLParts.nd rfl (Or.inl rfl)) (pgs_cons (pg_name (i := 2) scLParts.nd rfl (Or.inl rfl)) pgs_nil)))) (fun _ _ _ _ _ => pts_one (PW.pt (pw_or (pt_cmpR op_notN (pe_ix (ix_seqK K) (pv 2) pe_int (fun _ _ => rfl)) pe_non (nomark _)) (pw_or1 (pt_cmpR (op_in_seqK K) (pv 3) (pv 1) (by rfl)))))) (fun _ _ _ _ _ => pv 3)) pa_nil))))), ?_⟩
    obtain ⟨ps, ha, lp, hp⟩ := hh
    refine ⟨.ref a, rfl, a, rfl, ⟨_, SqL.of ha⟩, fun D hD => ?_⟩
    refine lc_it (walk_list (K := K) (a := a) (xs := ps.map V.ref)) (fun i H' => H' = upd H D (.lst ((toldI (rs.take i)).map V.int))) rfl (fun i H' _ e => by rw [e]; exact SqL.of (same_new hD _ _ ha)) ?_ ?_
    · rintro i x H2 H3 hi rfl ⟨rfl, hx⟩
      have hi2 : i < ps.length := by rw [List.length_map] at hi; exact hi
      have hi3 : i < rs.length := by rw [← lp]; exact hi2
      have ex : x = .ref ps[i] := by
        rw [List.getElem?_map, List.getElem?_eq_getElem hi2] at hx
        exact (Option.some.inj hx).symm
      subst ex
      have row := same_new (o := .lst ((toldI (rs.take i)).map V.int)) hD _ _ (hp i ps[i] rs[i] (List.getElem?_eq_getElem hi2) (List.getElem?_eq_getElem hi3))
      have tk : toldI (rs.take (i + 1)) = toldI (rs.take i) ++ rs[i].t.toList := by
        have one : ∀ r : Row, [r].filterMap (·.t) = r.t.toList := fun r => by cases h : r.t <;> simp [List.filterMap, h]
        unfold toldI
        rw [List.take_add_one, List.getElem?_eq_getElem hi3, List.filterMap_append]
        exact congrArg (List.filterMap (·.t) (rs.take i) ++ ·) (one rs[i])
      rw [tk]
      generalize rs[i] = r at row ⊢
      have sq : Sq K _ ps[i] (rowV r) := .inr (SqT.of row)
      refine ⟨rfl, .ref ps[i], rfl, Sq.ix sq rfl ⟨rfl, r.t.isSome, (by cases r.t <;> rfl), ?_⟩⟩
      cases ht : r.t with
      | none =>
        show _ = _
        rw [show (none : Option Int).toList = [] from rfl, List.append_nil]
      | some m =>
        refine ⟨.ref ps[i], rfl, Sq.ix sq (show atI (rowV r) 4 = some (.int m) from by unfold rowV; rw [ht]; rfl) ⟨_, upd_same, ?_, ?_⟩⟩
        · have l1 : (toldI (rs.take i)).length ≤ i := by
            unfold toldI
            refine Nat.le_trans (List.length_filterMap_le _ _) ?_
            rw [List.length_take]
            omega
          rw [List.length_map]
          exact Nat.lt_of_le_of_lt (Nat.le_trans l1 (show i ≤ 1000 by omega)) (by decide)
        · rw [upd_upd, List.map_append]
          rfl
    · rintro H2 rfl
      have e0 : toldI (rs.take (ps.map V.ref).length) = toldI rs := by rw [List.length_map, lp, List.take_of_length_le (Nat.le_refl _)]
      rw [e0]
      have s1 : Same H (upd H D (.lst ((toldI rs).map V.int))) := same_new hD
      have hd1 : upd H D (.lst ((toldI rs).map V.int)) D = some (.lst ((toldI rs).map V.int)) := upd_same
      generalize upd H D (.lst ((toldI rs).map V.int)) = H1 at s1 hd1 ⊢
      have ha1 := s1 _ _ ha
      refine ⟨.ref a, rfl, a, _, rfl, SqL.of ha1, fun G hG => ?_⟩
      refine lc_it (walk_enum (K := K) (a := a) (xs := ps.map V.ref)) (fun i H' => H' G = some (.lst (nats ((List.range i).filter (isPart rs)))) ∧ Same H1 H') ⟨upd_same, same_new hG⟩ (fun i H' _ e => SqL.of (e.2 _ _ ha1)) ?_ ?_
      · rintro i x H2 H3 hi ⟨hg, s2⟩ ⟨T0, xa, xb, rfl, hT0, rfl, ea, eb⟩
        have hi2 : i < ps.length := by rw [List.length_map] at hi; exact hi
        have hi3 : i < rs.length := by rw [← lp]; exact hi2
        cases ea
        have eb' : xb = .ref ps[i] := by
          dsimp only at eb
          rw [List.getElem?_map, List.getElem?_eq_getElem hi2] at eb
          exact (Option.some.inj eb).symm
        subst eb'
        have s3 := s2.trans (same_new (o := .tup [.int (i : Nat), .ref ps[i]]) hT0)
        have row := (s1.trans s3) _ _ (hp i ps[i] rs[i] (List.getElem?_eq_getElem hi2) (List.getElem?_eq_getElem hi3))
        have nT : G ≠ T0 := ne_of_none hg hT0
        have hg3 : upd H2 T0 (.tup [.int (i : Nat), .ref ps[i]]) G = some (.lst (nats ((List.range i).filter (isPart rs)))) := by rw [upd_ne nT]; exact hg
        have ip := part_any ok nb (List.getElem?_eq_getElem hi3)
        have nx : nats ((List.range (i + 1)).filter (isPart rs)) = if isPart rs i = true then nats ((List.range i).filter (isPart rs)) ++ [V.int (i : Int)] else nats ((List.range i).filter (isPart rs)) := by
          rw [List.range_succ, List.filter_append]
          cases c : isPart rs i with
          | true => rw [if_pos rfl]; simp [nats, c]
          | false => rw [if_neg (by decide)]; simp [c]
        have al : (nats ((List.range i).filter (isPart rs))).length < sizeLine := by
          have : (nats ((List.range i).filter (isPart rs))).length ≤ i := by
            unfold nats
            rw [List.length_map]
            exact Nat.le_trans (List.length_filter_le _ _) (by simp)
          exact Nat.lt_of_le_of_lt (Nat.le_trans this (show i ≤ 1000 by omega)) (by decide)
        refine ⟨T0, [.int (i : Nat), .ref ps[i]], rfl, .inl (.inl upd_same), rfl, _, _, rfl, _, _, rfl, rfl, ?_⟩
        have hd3 := s3 _ _ hd1
        have inn : inV (.int (i : Nat)) ((toldI rs).map V.int) = (toldI rs).any fun j => decide (j = (i : Int)) := by
          unfold inV
          rw [List.any_map]
          congr 1
        generalize rs[i] = r at row ip
        have sq : Sq K _ ps[i] (rowV r) := .inr (SqT.of row)
        generalize upd H2 T0 (.tup [.int (i : Nat), .ref ps[i]]) = H3 at s3 hg3 hd3 row sq ⊢
        have isY : isPart rs i = true → (upd H3 G (.lst (nats ((List.range i).filter (isPart rs)) ++ [V.int (i : Int)]))) G = some (.lst (nats ((List.range (i + 1)).filter (isPart rs)))) ∧ Same H1 (upd H3 G (.lst (nats ((List.range i).filter (isPart rs)) ++ [V.int (i : Int)]))) := fun z =>
          ⟨by rw [upd_same, nx, if_pos z], fun b o e => by rw [upd_ne (ne_of_none e hG)]; exact s3 b o e⟩
        have isN : isPart rs i = false → H3 G = some (.lst (nats ((List.range (i + 1)).filter (isPart rs)))) ∧ Same H1 H3 := fun z => ⟨by rw [nx, if_neg (by rw [z]; decide)]; exact hg3, s3⟩
        refine ⟨rfl, ?_⟩
        refine ⟨.ref ps[i], rfl, Sq.ix sq rfl ⟨rfl, r.e.isSome, (by cases r.e <;> rfl), ?_⟩⟩
        cases he : r.e.isSome with
        | true => exact iteT' (iteT' ⟨_, rfl, _, hg3, al, isY (by rw [ip, he]; rfl)⟩)
        | false =>
          rw [he, Bool.false_or] at ip
          refine iteF' ⟨_, rfl, .ref D, rfl, D, _, rfl, .inl (SqL.of hd3), rfl, ?_, _, rfl, ?_⟩
          · rw [List.all_map]
            exact List.all_eq_true.mpr fun j _ => rfl
          · rw [if_neg (by decide), inn, ← ip]
            cases hq : isPart rs i with
            | true => exact iteT' ⟨_, rfl, _, hg3, al, isY hq⟩
            | false => exact iteF' (isN hq)
      · rintro H2 ⟨hg, s2⟩
        rw [List.length_map, lp] at hg
        exact ⟨G, _, rfl, .inl ⟨SqL.of hg, fun l hl => q l _ (s1.trans (s2.trans (same_new hl))) upd_same⟩⟩
end
end K34
end

section
set_option Elab.async false
set_option linter.all false
set_option maxRecDepth 100000
set_option maxHeartbeats 4000000
/-! the zones of the program are those of the law: their numbers -/
namespace K34
open PySem L2 KZ
/-- the asks of l of the lot k -/
def mineR (rs : List Row) (k : Option Int) (l : List Nat) : List Row := l.filterMap fun i => (rs[i]?).bind fun r => if lotOf r i = k then some r else none
def accB (o : Option Int) (bs : List Int) : Option Int := bs.foldl (fun o b => some (max2 (o.getD b) b)) o
def accE (o : Option Int) (es : List Int) : Option Int := es.foldl (fun o e => some (min2 (o.getD e) e)) o
theorem mineR_cons (rs : List Row) (k : Option Int) (i : Nat) (l : List Nat) : mineR rs k (i :: l) = (match rs[i]? with
    | some r => if lotOf r i = k then [r] else []
    | none => []) ++ mineR rs k l := by
  unfold mineR
  rw [List.filterMap_cons]
  cases h : rs[i]? with
  | none => simp [h]
  | some r =>
    by_cases hk : lotOf r i = k
    · simp [h, hk]
    · simp [h, hk]
theorem fold_begins (rs : List Row) (k : Option Int) : ∀ (l : List Nat) (st : KI × KI), getO (l.foldl (stepZ rs) st).2 k = accB (getO st.2 k) ((mineR rs k l).map (·.b))
  | [], st => rfl
  | i :: l, st => by
    rw [List.foldl_cons, fold_begins rs k l, mineR_cons]
    cases h : rs[i]? with
    | none => rw [stepZ_none h]; rfl
    | some r =>
      rw [stepZ_some h]
      show accB (getO (begR st.2 i r) k) _ = _
      unfold begR
      rw [getO_set]
      by_cases hk : lotOf r i = k
      · rw [if_pos hk.symm]
        simp only [hk, if_true]
        rfl
      · rw [if_neg fun z => hk z.symm]
        simp only [hk, if_false]
        rfl
theorem fold_ends (rs : List Row) (k : Option Int) : ∀ (l : List Nat) (st : KI × KI), getO (l.foldl (stepZ rs) st).1 k = accE (getO st.1 k) ((mineR rs k l).filterMap (·.e))
  | [], st => rfl
  | i :: l, st => by
    rw [List.foldl_cons, fold_ends rs k l, mineR_cons]
    cases h : rs[i]? with
    | none => rw [stepZ_none h]; rfl
    | some r =>
      rw [stepZ_some h]
      show accE (getO (endR st.1 i r) k) _ = _
      by_cases hk : lotOf r i = k
      · simp only [hk, if_true]
        unfold endR
        cases he : r.e with
        | none => simp [he]
        | some x =>
          show accE (getO (setO st.1 _ _) k) _ = _
          rw [getO_set, if_pos hk.symm]
          simp only [List.cons_append, List.nil_append, List.filterMap_cons, he, hk]
          rfl
      · simp only [hk, if_false]
        unfold endR
        cases he : r.e with
        | none => rfl
        | some x =>
          show accE (getO (setO st.1 _ _) k) _ = _
          rw [getO_set, if_neg fun z => hk z.symm]
          rfl
theorem mem_mine {rs : List Row} {k : Option Int} {l : List Nat} {r : Row} : r ∈ mineR rs k l ↔ ∃ i ∈ l, rs[i]? = some r ∧ lotOf r i = k := by
  unfold mineR
  rw [List.mem_filterMap]
  constructor
  · rintro ⟨i, m, h⟩
    cases hr : rs[i]? with
    | none => rw [hr] at h; cases h
    | some q =>
      rw [hr] at h
      have h : (if lotOf q i = k then some q else none) = some r := h
      by_cases hk : lotOf q i = k
      · rw [if_pos hk] at h
        cases h
        exact ⟨i, m, hr, hk⟩
      · rw [if_neg hk] at h
        cases h
  · rintro ⟨i, m, h, hk⟩
    refine ⟨i, m, ?_⟩
    rw [h]
    show (if lotOf r i = k then some r else none) = some r
    rw [if_pos hk]
theorem mine_none {rs : List Row} (h : isTold rs none = true) : ∃ r, r ∈ mineR rs none (partsOf rs) := by
  unfold isTold at h
  obtain ⟨r, m, t⟩ := List.any_eq_true.mp h
  obtain ⟨j, hj, ej⟩ := List.mem_iff_getElem.mp m
  rw [Bool.and_eq_true] at t
  obtain ⟨t3, t4⟩ := t
  unfold tells at t3
  rw [Bool.and_eq_true] at t3
  have ej2 : rs[j]? = some r := by rw [List.getElem?_eq_getElem hj, ej]
  refine ⟨r, mem_mine.mpr ⟨j, mem_parts.mpr ⟨r, ej2, by rw [t3.2]; rfl⟩, ej2, ?_⟩⟩
  unfold lotOf
  rw [if_pos t3.1]
  exact of_decide_eq_true t4
theorem init2 (rs : List Row) (k : Option Int) : (getO (initZ rs).2 k).isSome = true ↔ (isTold rs none = true ∧ k = none) := by
  unfold initZ
  by_cases h : isTold rs none = true
  · rw [if_pos h]
    cases k with
    | none => exact ⟨fun _ => ⟨h, rfl⟩, fun _ => rfl⟩
    | some x => exact ⟨fun z => (nomatch z), fun z => (nomatch z.2)⟩
  · rw [if_neg h]
    exact ⟨fun z => (nomatch z), fun z => absurd z.1 h⟩
theorem has_mine (rs : List Row) (k : Option Int) : (getO (foldZ rs (partsOf rs)).2 k).isSome = true ↔ ∃ r, r ∈ mineR rs k (partsOf rs) := by
  unfold foldZ
  rw [foldZ_begins, init2]
  constructor
  · rintro (⟨h, rfl⟩ | ⟨i, m, r, e, lk⟩)
    · exact mine_none h
    · exact ⟨r, mem_mine.mpr ⟨i, m, e, lk⟩⟩
  · rintro ⟨r, m⟩
    obtain ⟨i, mi, e, lk⟩ := mem_mine.mp m
    exact .inr ⟨i, mi, r, e, lk⟩
/-! keys -/
def keysO (b : KI) : List (Option Int) := b.map (·.1)
theorem keys_set (b : KI) (k : Option Int) (v : Int) : keysO (setO b k v) = if k ∈ keysO b then keysO b else keysO b ++ [k] := by
  unfold setO keysO
  have an : ((b.any fun p => decide (p.1 = k)) = true) ↔ k ∈ b.map (·.1) := by
    rw [List.any_eq_true, List.mem_map]
    exact ⟨fun ⟨p, m, e⟩ => ⟨p, m, of_decide_eq_true e⟩, fun ⟨p, m, e⟩ => ⟨p, m, decide_eq_true e⟩⟩
  by_cases h : k ∈ b.map (·.1)
  · rw [if_pos h, if_pos (an.mpr h), List.map_map]
    refine List.map_congr_left fun p _ => ?_
    show (if p.1 = k then (p.1, v) else p).1 = p.1
    split <;> rfl
  · rw [if_neg h, if_neg fun z => h (an.mp z), List.map_append]
    rfl
theorem nodup_set {b : KI} {k : Option Int} {v : Int} (h : (keysO b).Nodup) : (keysO (setO b k v)).Nodup := by
  rw [keys_set]
  split
  · exact h
  · rename_i n
    rw [List.nodup_append]
    exact ⟨h, by simp, fun a ha c hc => by
      rw [List.mem_singleton] at hc
      subst hc
      exact fun z => n (z ▸ ha)⟩
theorem nodup_fold (rs : List Row) : ∀ (l : List Nat) (st : KI × KI), (keysO st.2).Nodup → (keysO (l.foldl (stepZ rs) st).2).Nodup
  | [], st, h => h
  | i :: l, st, h => by
    rw [List.foldl_cons]
    refine nodup_fold rs l _ ?_
    cases hr : rs[i]? with
    | none => rw [stepZ_none hr]; exact h
    | some r => rw [stepZ_some hr]; exact nodup_set h
theorem nodup_begins (rs : List Row) : (keysO (foldZ rs (partsOf rs)).2).Nodup := by
  refine nodup_fold rs _ _ ?_
  unfold initZ
  split <;> decide
theorem mem_keys {b : KI} {k : Option Int} : k ∈ keysO b ↔ (getO b k).isSome = true := by
  refine ⟨getO_mem, fun h => ?_⟩
  unfold getO at h
  rw [Option.isSome_map, List.find?_isSome] at h
  obtain ⟨p, m, e⟩ := h
  exact List.mem_map.mpr ⟨p, m, of_decide_eq_true e⟩
theorem soms_keys (b : KI) : soms b = (keysO b).filterMap id := rfl
theorem mem_soms {b : KI} {x : Int} : x ∈ soms b ↔ (getO b (some x)).isSome = true := by
  rw [soms_keys, List.mem_filterMap, ← mem_keys]
  exact ⟨fun ⟨o, m, e⟩ => (show o = some x from e) ▸ m, fun m => ⟨some x, m, rfl⟩⟩
theorem nodup_somes : ∀ l : List (Option Int), l.Nodup → (l.filterMap id).Nodup
  | [], _ => List.nodup_nil
  | none :: l, h => nodup_somes l (List.nodup_cons.mp h).2
  | some x :: l, h => by
    rw [List.filterMap_cons]
    refine List.nodup_cons.mpr ⟨fun m => ?_, nodup_somes l (List.nodup_cons.mp h).2⟩
    obtain ⟨o, mo, e⟩ := List.mem_filterMap.mp m
    exact (List.nodup_cons.mp h).1 ((show o = some x from e) ▸ mo)
/-- a lot of a part is an index -/
theorem lot_index {rs : List Row} (ok : ∀ r ∈ rs, r.Ok) (nb : firstBad rs = none) {i : Nat} {r : Row} {x : Int} (h : rs[i]? = some r) (hx : lotOf r i = some x) : ∃ n : Nat, x = n ∧ n < rs.length := by
  have hi := (List.getElem?_eq_some_iff.mp h).1
  unfold lotOf at hx
  by_cases g : r.g = true
  · rw [if_pos g] at hx
    obtain ⟨_, _, x0⟩ := (ok r (List.mem_of_getElem? h)).tg x hx
    unfold firstBad at nb
    rw [List.find?_range_eq_none] at nb
    have := nb i hi
    unfold badAt at this
    rw [h] at this
    have this : (!(match r.t with
      | none => false
      | some j => decide ((rs.length : Int) ≤ j) || (match rs[j.toNat]? with
        | some r => r.g
        | none => true))) = true := this
    rw [hx] at this
    have this : (!(decide ((rs.length : Int) ≤ x) || (match rs[x.toNat]? with
      | some r => r.g
      | none => true))) = true := this
    have lt : ¬ (rs.length : Int) ≤ x := fun z => by
      rw [decide_eq_true z] at this
      cases this
    exact ⟨x.toNat, (Int.toNat_of_nonneg x0).symm, by omega⟩
  · rw [if_neg g] at hx
    exact ⟨i, (Option.some.inj hx).symm, hi⟩
def hasM (rs : List Row) (k : Option Int) : Bool := !(mineR rs k (partsOf rs)).isEmpty
theorem hasM_iff {rs : List Row} {k : Option Int} : hasM rs k = true ↔ ∃ r, r ∈ mineR rs k (partsOf rs) := by
  unfold hasM
  cases mineR rs k (partsOf rs) with
  | nil => exact ⟨fun z => (nomatch z), fun ⟨r, m⟩ => (nomatch m)⟩
  | cons r l => exact ⟨fun _ => ⟨r, List.mem_cons_self⟩, fun _ => rfl⟩
theorem puts_sorted {rs : List Row} (ok : ∀ r ∈ rs, r.Ok) (nb : firstBad rs = none) : putsZ (foldZ rs (partsOf rs)).2 = ((List.range rs.length).filter fun (i : Nat) => hasM rs (some (i : Int))).map fun (i : Nat) => (i : Int) := by
  refine (PySem.W.eq_sortI ?_ ?_).symm
  · refine (List.perm_ext_iff_of_nodup ?_ (nodup_somes _ (nodup_begins rs))).mpr fun x => ?_
    · refine List.Pairwise.map _ ?_ (List.nodup_range.filter _)
      intro a b h z
      exact h (Int.ofNat.inj z)
    · show _ ↔ x ∈ soms (foldZ rs (partsOf rs)).2
      rw [mem_soms, has_mine, ← hasM_iff]
      constructor
      · intro m
        obtain ⟨n, mn, rfl⟩ := List.mem_map.mp m
        exact (List.mem_filter.mp mn).2
      · intro h
        obtain ⟨r, m⟩ := hasM_iff.mp h
        obtain ⟨i, _, e, lk⟩ := mem_mine.mp m
        obtain ⟨n, rfl, hn⟩ := lot_index ok nb e lk
        exact List.mem_map.mpr ⟨n, List.mem_filter.mpr ⟨List.mem_range.mpr hn, h⟩, rfl⟩
  · refine List.Pairwise.map _ ?_ ((List.pairwise_lt_range).filter _)
    intro a b h
    omega
theorem lots_eq {rs : List Row} (ok : ∀ r ∈ rs, r.Ok) (nb : firstBad rs = none) : lotsZ (foldZ rs (partsOf rs)).2 = (none :: (List.range rs.length).map fun (i : Nat) => some (i : Int)).filter (hasM rs) := by
  have tail : ((List.range rs.length).map fun (i : Nat) => some (i : Int)).filter (hasM rs) = (putsZ (foldZ rs (partsOf rs)).2).map some := by
    rw [puts_sorted ok nb, List.filter_map, List.map_map]
    rfl
  unfold lotsZ
  rw [List.filter_cons, tail]
  have : (getO (foldZ rs (partsOf rs)).2 none).isSome = hasM rs none := by
    rw [Bool.eq_iff_iff, has_mine, hasM_iff]
  rw [this]
theorem acc_low : ∀ (bs : List Int) (b : Int), accB (some (-1)) (b :: bs) = if 0 ≤ b then accB none (b :: bs) else accB (some (-1)) (b :: bs) := fun bs b => by
  by_cases h : 0 ≤ b
  · rw [if_pos h]
    unfold accB
    rw [List.foldl_cons, List.foldl_cons]
    have e : max2 ((some (-1 : Int)).getD b) b = max2 ((none : Option Int).getD b) b := by
      show (if b > -1 then b else -1) = (if b > b then b else b)
      rw [if_pos (by omega), if_neg (by omega)]
    rw [e]
  · rw [if_neg h]
theorem accE_low : ∀ es : List Int, (∀ e ∈ es, 0 ≤ e) → accE (some (-1)) es = some (-1)
  | [], _ => rfl
  | e :: es, h => by
    unfold accE
    rw [List.foldl_cons]
    have h0 : 0 ≤ e := h e List.mem_cons_self
    have e1 : min2 ((some (-1 : Int)).getD e) e = -1 := by
      show (if e < -1 then e else -1) = -1
      rw [if_neg (by omega)]
    rw [e1]
    exact accE_low es fun x m => h x (List.mem_cons_of_mem _ m)
theorem told_of_mine {rs : List Row} (h : hasM rs none = true) : isTold rs none = true := by
  obtain ⟨r, m⟩ := hasM_iff.mp h
  obtain ⟨i, mi, e, lk⟩ := mem_mine.mp m
  obtain ⟨r', e', p⟩ := mem_parts.mp mi
  rw [e] at e'
  cases e'
  unfold lotOf at lk
  by_cases g : r.g = true
  · rw [if_pos g] at lk
    rw [g] at p
    have p : (r.e.isSome || (false && isTold rs (some (i : Int)))) = true := p
    rw [Bool.false_and, Bool.or_false] at p
    unfold isTold
    refine List.any_eq_true.mpr ⟨r, List.mem_of_getElem? e, ?_⟩
    unfold tells
    rw [g, p, decide_eq_true lk]
    rfl
  · rw [if_neg g] at lk
    cases lk
def zoneM (rs : List Row) (k : Option Int) : Option Int × Int × Int :=
  (k, if k = none then -1 else (accE none ((mineR rs k (partsOf rs)).filterMap (·.e))).getD 0, (accB none ((mineR rs k (partsOf rs)).map (·.b))).getD 0)
theorem zone_eq {rs : List Row} (ok : ∀ r ∈ rs, r.Ok) {k : Option Int} (h : hasM rs k = true) : zoneZ (foldZ rs (partsOf rs)) k = zoneM rs k := by
  unfold zoneZ zoneM foldZ
  rw [fold_begins, fold_ends]
  cases k with
  | some x =>
    have i1 : getO (initZ rs).1 (some x) = none := by unfold initZ; split <;> rfl
    have i2 : getO (initZ rs).2 (some x) = none := by unfold initZ; split <;> rfl
    rw [i1, i2, if_neg (by exact fun z => nomatch z)]
  | none =>
    have tl := told_of_mine h
    have i0 : initZ rs = ([(none, -1)], [(none, -1)]) := by unfold initZ; rw [if_pos tl]
    rw [i0, if_pos rfl]
    have mem : ∀ r ∈ mineR rs none (partsOf rs), r.Ok := fun r m => by
      obtain ⟨i, _, e, _⟩ := mem_mine.mp m
      exact ok r (List.mem_of_getElem? e)
    have b1 : getO [((none : Option Int), (-1 : Int))] none = some (-1) := rfl
    rw [b1]
    have ends : accE (some (-1)) ((mineR rs none (partsOf rs)).filterMap (·.e)) = some (-1) := accE_low _ fun e m => by
      obtain ⟨r, mr, er⟩ := List.mem_filterMap.mp m
      have := (mem r mr).eb e er
      have := (mem r mr).b0
      omega
    rw [ends]
    have : accB (some (-1)) ((mineR rs none (partsOf rs)).map (·.b)) = accB none ((mineR rs none (partsOf rs)).map (·.b)) := by
      unfold hasM at h
      cases hm : mineR rs none (partsOf rs) with
      | nil => rw [hm] at h; cases h
      | cons r l =>
        rw [List.map_cons, acc_low, if_pos (mem r (by rw [hm]; exact List.mem_cons_self)).b0]
    rw [this]
    rfl
/-- the zones are those of the lots that have an ask, in order -/
theorem zones_eq {rs : List Row} (ok : ∀ r ∈ rs, r.Ok) (nb : firstBad rs = none) : zonesOf rs = ((none :: (List.range rs.length).map fun (i : Nat) => some (i : Int)).filter (hasM rs)).map (zoneM rs) := by
  unfold zonesOf
  rw [lots_eq ok nb]
  exact List.map_congr_left fun k m => zone_eq ok (List.mem_filter.mp m).2
theorem accB_spec : ∀ (bs : List Int) (a : Int), ∃ m, accB (some a) bs = some m ∧ (m = a ∨ m ∈ bs) ∧ a ≤ m ∧ ∀ y ∈ bs, y ≤ m
  | [], a => ⟨a, rfl, .inl rfl, Int.le_refl _, fun _ z => nomatch z⟩
  | b :: bs, a => by
    obtain ⟨m, e, i, l, u⟩ := accB_spec bs (max2 a b)
    have h : max2 a b = a ∧ b ≤ a ∨ max2 a b = b ∧ a ≤ b := by
      unfold max2
      by_cases z : b > a
      · rw [if_pos z]; exact .inr ⟨rfl, by omega⟩
      · rw [if_neg z]; exact .inl ⟨rfl, by omega⟩
    refine ⟨m, e, ?_, by omega, fun y my => ?_⟩
    · rcases i with i | i
      · rcases h with h | h
        · exact .inl (i.trans h.1)
        · exact .inr (by rw [i, h.1]; exact List.mem_cons_self)
      · exact .inr (List.mem_cons_of_mem _ i)
    · rcases List.mem_cons.mp my with rfl | my
      · omega
      · exact u y my
theorem accE_spec : ∀ (es : List Int) (a : Int), ∃ m, accE (some a) es = some m ∧ (m = a ∨ m ∈ es) ∧ m ≤ a ∧ ∀ y ∈ es, m ≤ y
  | [], a => ⟨a, rfl, .inl rfl, Int.le_refl _, fun _ z => nomatch z⟩
  | b :: es, a => by
    obtain ⟨m, e, i, l, u⟩ := accE_spec es (min2 a b)
    have h : min2 a b = a ∧ a ≤ b ∨ min2 a b = b ∧ b ≤ a := by
      unfold min2
      by_cases z : b < a
      · rw [if_pos z]; exact .inr ⟨rfl, by omega⟩
      · rw [if_neg z]; exact .inl ⟨rfl, by omega⟩
    refine ⟨m, e, ?_, by omega, fun y my => ?_⟩
    · rcases i with i | i
      · rcases h with h | h
        · exact .inl (i.trans h.1)
        · exact .inr (by rw [i, h.1]; exact List.mem_cons_self)
      · exact .inr (List.mem_cons_of_mem _ i)
    · rcases List.mem_cons.mp my with rfl | my
      · omega
      · exact u y my
theorem accB_max {bs : List Int} {m : Int} (h : m ∈ bs) (u : ∀ y ∈ bs, y ≤ m) : accB none bs = some m := by
  cases bs with
  | nil => cases h
  | cons b bs =>
    obtain ⟨M, e, i, l, v⟩ := accB_spec bs b
    have e0 : accB none (b :: bs) = accB (some b) bs := by
      unfold accB
      rw [List.foldl_cons]
      have : max2 ((none : Option Int).getD b) b = b := by
        show (if b > b then b else b) = b
        split <;> rfl
      rw [this]
    rw [e0, e]
    have h1 : M ≤ m := by
      rcases i with rfl | i
      · exact u _ List.mem_cons_self
      · exact u _ (List.mem_cons_of_mem _ i)
    have h2 : m ≤ M := by
      rcases List.mem_cons.mp h with rfl | h
      · exact l
      · exact v m h
    rw [Int.le_antisymm h1 h2]
theorem accE_min {es : List Int} {m : Int} (h : m ∈ es) (u : ∀ y ∈ es, m ≤ y) : accE none es = some m := by
  cases es with
  | nil => cases h
  | cons b es =>
    obtain ⟨M, e, i, l, v⟩ := accE_spec es b
    have e0 : accE none (b :: es) = accE (some b) es := by
      unfold accE
      rw [List.foldl_cons]
      have : min2 ((none : Option Int).getD b) b = b := by
        show (if b < b then b else b) = b
        split <;> rfl
      rw [this]
    rw [e0, e]
    have h1 : m ≤ M := by
      rcases i with rfl | i
      · exact u _ List.mem_cons_self
      · exact u _ (List.mem_cons_of_mem _ i)
    have h2 : M ≤ m := by
      rcases List.mem_cons.mp h with rfl | h
      · exact l
      · exact v m h
    rw [Int.le_antisymm h1 h2]
/-- of a lot that has an ask, an end is there -/
theorem ends_some {rs : List Row} {k : Option Int} (h : hasM rs k = true) : (mineR rs k (partsOf rs)).filterMap (·.e) ≠ [] := by
  have h1 := (has_mine rs k).mpr (hasM_iff.mp h)
  have h2 := ends_there h1
  cases k with
  | none =>
    obtain ⟨r, m⟩ := mine_none (told_of_mine h)
    obtain ⟨i, mi, e, lk⟩ := mem_mine.mp m
    obtain ⟨r', e', p⟩ := mem_parts.mp mi
    rw [e] at e'
    cases e'
    cases he : r.e with
    | some x =>
      intro z
      have : x ∈ (mineR rs none (partsOf rs)).filterMap (·.e) := List.mem_filterMap.mpr ⟨r, m, he⟩
      rw [z] at this
      cases this
    | none =>
      rw [he] at p
      unfold lotOf at lk
      cases g : r.g with
      | true => rw [g] at p; cases p
      | false => rw [g, if_neg (by decide)] at lk; cases lk
  | some x =>
    unfold foldZ at h2
    rw [fold_ends] at h2
    have i1 : getO (initZ rs).1 (some x) = none := by unfold initZ; split <;> rfl
    rw [i1] at h2
    intro z
    rw [z] at h2
    cases h2
end K34
end

section
set_option Elab.async false
set_option linter.all false
set_option maxRecDepth 100000
set_option maxHeartbeats 4000000
/-! a zone, by the law -/
namespace K34
open PySem L2 KZ
abbrev sZone : Stmt := top 27
def ZoneAt (H : Hp) (q : Addr) (z : Option Int × Int × Int) : Prop := H q = some (.tup [oV z.1, .int z.2.1, .int z.2.2])
def spZone : Sp := fun vs H Q _ => ∃ a rs k, vs = [.ref a, oV k] ∧ RowsAt H a rs ∧ rs.length ≤ 1000 ∧ (∀ r ∈ rs, r.Ok) ∧ firstBad rs = none ∧
  (hasM rs k = false → ∀ H', Same H H' → Q .non H') ∧ (hasM rs k = true → ∀ q H', Same H H' → ZoneAt H' q (zoneM rs k) → Q (.ref q) H')
def mineI (rs : List Row) (k : Option Int) (l : List Nat) : List Nat := l.filter fun i => match rs[i]? with
  | some r => decide (lotOf r i = k)
  | none => false
theorem eq_oV (o u : Option Int) : decide (oV o = oV u) = decide (o = u) := by
  by_cases h : o = u
  · rw [decide_eq_true h, decide_eq_true (by rw [h])]
  · rw [decide_eq_false h, decide_eq_false fun z => h ?_]
    cases o <;> cases u <;> first | rfl | (cases z; done) | (cases z; rfl)
theorem mine_rows (rs : List Row) (k : Option Int) : ∀ l : List Nat, (mineI rs k l).filterMap (fun i => rs[i]?) = mineR rs k l
  | [] => rfl
  | i :: l => by
    rw [mineR_cons, ← mine_rows rs k l]
    unfold mineI
    rw [List.filter_cons]
    cases h : rs[i]? with
    | none => rfl
    | some r =>
      by_cases hk : lotOf r i = k
      · simp [hk, h]
      · simp [hk]
theorem mine_has {rs : List Row} {k : Option Int} : (mineI rs k (partsOf rs)).isEmpty = !hasM rs k := by
  unfold hasM
  rw [← mine_rows]
  cases h : mineI rs k (partsOf rs) with
  | nil => rfl
  | cons i l =>
    have m : i ∈ mineI rs k (partsOf rs) := by rw [h]; exact List.mem_cons_self
    unfold mineI at m
    have := (List.mem_filter.mp m).2
    cases hr : rs[i]? with
    | none => rw [hr] at this; cases this
    | some r => simp [hr]
section
variable {P : Program} {w : World} {K : PySem.W.Frag} {mg : Str → Option Value} {base : Heap} {fL : Addr} {dL : FuncData}
theorem lot_val2 {σ : L2.St} {H : Hp} {a p : Addr} {ps : List Addr} {r : Row} {at_ : Nat} {Q : VK} (h0 : σ[0]? = some (some (.ref a))) (h3 : σ[3]? = some (some (.int at_))) (sqa : Sq K H a (ps.map V.ref)) (at1 : atI (ps.map V.ref) (at_ : Int) = some (.ref p)) (sq : Sq K H p (rowV r)) (q : Q (oV (lotOf r at_)) H) :
    tIf (tTest (tOp rEq (tOp (rIx K) (tOp (rIx K) (tVar 0) (tVar 3)) (tC (.int 1))) (tC (.str "put")))) (tVar 3) (tOp (rIx K) (tOp (rIx K) (tVar 0) (tVar 3)) (tC (.int 4))) σ H Q := by
  refine ⟨.ref a, h0, .int at_, h3, Sq.ix sqa at1 (Sq.ix sq rfl ⟨rfl, !r.g, (by cases r.g <;> decide +kernel), ?_⟩)⟩
  unfold lotOf at q
  cases hg : r.g with
  | true =>
    rw [hg, if_pos rfl] at q
    exact iteF' ⟨.ref a, h0, .int at_, h3, Sq.ix sqa at1 (Sq.ix sq rfl q)⟩
  | false =>
    rw [hg, if_neg (by decide)] at q
    exact iteT' ⟨_, h3, q⟩
theorem scZone : FnScope ["rows", "lot", "mine", "at", "ends", "end"] ["rows", "lot"] (defScope sZone) := ⟨rfl, rfl, rfl, by decide +kernel, rfl, by decide +kernel, by decide +kernel⟩
theorem min_val {a D G : Addr} {k : Option Int} {es : List Int} {H : Hp} {Q : VK} (hg : H G = some (.lst (es.map V.int))) (ne : es ≠ []) (hl : es.length ≤ 1000) (q : ∀ H', Same H H' → Q (.int (if k = none then -1 else (accE none es).getD 0)) H') :
    tIf (tTest (tOp (fun x y H Q => y = V.non ∧ Q (V.bl (decide (x = V.non))) H) (tVar 1) (tC V.non))) (tUn (rU fun i => V.int (-i)) (tC (V.int 1)))
      (tCB (rMin K) (tCons (tLc (iList K (tVar 4)) (gName 5) tYes (tCB (fun xs H Q => (∃ i, xs = [V.int i] ∧ Q (V.int i) H) ∨ ∃ k, xs = [V.bl k] ∧ Q (V.int (if k = true then 1 else 0)) H) (tCons (tVar 5) tNil)) [5]) tNil))
      [some (.ref a), some (oV k), some (.ref D), none, some (.ref G), none] H Q := by
  refine ⟨oV k, rfl, rfl, k.isNone, (by cases k <;> rfl), ?_⟩
  cases k with
  | none => exact iteT' ⟨_, rfl, q H (Same.refl H)⟩
  | some x =>
    refine iteF' ⟨.ref G, rfl, G, rfl, ⟨_, SqL.of hg⟩, fun L hL => ?_⟩
    refine lc_it (walk_list (K := K) (a := G) (xs := es.map V.int)) (fun i H' => H' = upd H L (.lst ((es.take i).map V.int))) rfl (fun i H' _ e => by rw [e]; exact SqL.of (same_new hL _ _ hg)) ?_ ?_
    · rintro i x H2 H3 hi rfl ⟨rfl, hx⟩
      have hi2 : i < es.length := by rw [List.length_map] at hi; exact hi
      have ex : x = .int es[i] := by
        rw [List.getElem?_map, List.getElem?_eq_getElem hi2] at hx
        exact (Option.some.inj hx).symm
      subst ex
      refine ⟨rfl, yes_go ⟨_, rfl, .inl ⟨es[i], rfl, _, upd_same, ?_, ?_⟩⟩⟩
      · rw [List.length_map, List.length_take]
        exact Nat.lt_of_le_of_lt (show _ ≤ 1000 by omega) (by decide)
      · rw [upd_upd, List.take_add_one, List.getElem?_eq_getElem hi2, List.map_append]
        rfl
    · rintro H2 rfl
      rw [List.length_map, List.take_of_length_le (Nat.le_refl _)]
      refine ⟨L, es, rfl, SqL.of upd_same, List.length_pos_iff.mpr ne, fun m hm hu => ?_⟩
      have q := q _ (same_new (o := .lst (es.map V.int)) hL)
      rw [if_neg (by exact fun z => nomatch z), accE_min hm hu] at q
      exact q
theorem ok_zone {f : Addr} {fd : FuncData} (F : Fun K "_law_zone" "_law_zone" sZone f fd) (T : B1 mg) (gL : mg "_law_parts" = some (.ref fL)) (FL : Fun K "_law_parts" "_law_parts" sLParts fL dL) (bL : Binds K dL ["rows"] []) : FnOk P w K mg base CX0 2 f fd ["rows", "lot"] spZone := by
  have GL : FnOk P w K mg base CX0 1 fL dL ["rows"] spLParts := ok_lparts FL T
  refine F.ok scZone (fun vs H Q E h => ?_) (fun cdv A' outer s H vs Q E hr h => ?_)
  · obtain ⟨a, rs, k, rfl, _⟩ := h
    rfl
  · obtain ⟨a, rs, k, rfl, hh, hl, ok, nb, q0, q1⟩ := h
    have hr1 : Room 1 _ := hr
    refine ⟨_, (pss_cons (ps_setLc (i := 2) (own := [("at", 3)]) (g := gName 3) (by rfl) scZone.nd rfl rfl (sw_true rfl rfl rfl (by decide +kernel)) (pi_sq (pe_call GL hr1 (by rfl) gL FL.kp bL .nil pass0 (pa_cons (pv 0) pa_nil))) (blkOk_by (own := [("at", 3)]) (N := ["rows", "lot", "mine", "at", "ends", "end"]) (sc := defScope sZone) (by decide +kernel)) (fun _ _ _ _ _ => pg_name (i := 3) scZone.nd rfl (Or.inl rfl)) (fun _ _ _ _ _ => pts_one (pt_cmpR op_eq (pe_ifExp (pt_cmpR op_eq (pe_ix (ix_seqK K) (pe_ix (ix_seqK K) (pv 0) (pv 3) (fun _ _ => rfl)) pe_int (fun _ _ => rfl)) pe_str (nomark _)) (pv 3) (pe_ix (ix_seqK K) (pe_ix (ix_seqK K) (pv 0) (pv 3) (fun _ _ => rfl)) pe_int (fun _ _ => rfl))) (pv 1) (nomark _))) (fun _ _ _ _ _ => pv 3))
(pss_cons (ps_if (pt_cmpR (op_eqD hr.units) (pv 2) (pe_lst pa_nil) (nomark _))
(pss_one (ps_ret pe_non))
pss_nil)
(pss_cons (ps_setLc (i := 4) (own := [("at", 3)]) (g := gName 3) (by rfl) scZone.nd rfl rfl (sw_true rfl rfl rfl (by decide +kernel)) (pi_list (pv 2)) (blkOk_by (own := [("at", 3)]) (N := ["rows", "lot", "mine", "at", "ends", "end"]) (sc := defScope sZone) (by decide +kernel)) (fun _ _ _ _ _ => pg_name (i := 3) scZone.nd rfl (Or.inl rfl)) (fun _ _ _ _ _ => pts_one (pt_cmpR op_notN (pe_ix (ix_seqK K) (pe_ix (ix_seqK K) (pv 0) (pv 3) (fun _ _ => rfl)) pe_int (fun _ _ => rfl)) pe_non (nomark _))) (fun _ _ _ _ _ => pe_callTy call_int1 (by rfl) T.int (by decide +kernel) (pa_cons (pe_ix (ix_seqK K) (pe_ix (ix_seqK K) (pv 0) (pv 3) (fun _ _ => rfl)) pe_int (fun _ _ => rfl)) pa_nil)))
(pss_one (ps_ret (pe_tup (pa_cons (pv 1) (pa_cons (pe_ifExp (pt_cmpR op_isN (pv 1) pe_non (nomark _)) (pe_un un_neg pe_int) (pe_callB (cr_min rfl) (by rfl) T.min (by decide +kernel) (pa_cons (pe_lc (own := [("end", 5)]) (g := gName 5) (tt := tYes) (by rfl) scZone.nd (pi_list (pv 4)) (blkOk_by (own := [("end", 5)]) (N := ["rows", "lot", "mine", "at", "ends", "end"]) (sc := defScope sZone) (by decide +kernel)) (fun _ _ _ _ _ => pg_name (i := 5) scZone.nd rfl (Or.inl rfl)) (fun _ _ _ _ _ => pts_nil) (fun _ _ _ _ _ => pe_callTy call_int1 (by rfl) T.int (by decide +kernel) (pa_cons (pv 5) pa_nil))) pa_nil))) (pa_cons (pe_callB (cr_max rfl) (by rfl) T.max (by decide +kernel) (pa_cons (pe_lc (own := [("at", 3)]) (g := gName 3) (tt := tYes) (by rfl) scZone.nd (pi_list (pv 2)) (blkOk_by (own := [("at", 3)]) (N := ["rows", "lot", "mine", "at", "ends", "end"]) (sc := defScope sZone) (by decide +kernel)) (fun _ _ _ _ _ => pg_name (i := 3) scZone.nd rfl (Or.inl rfl)) (fun _ _ _ _ _ => pts_nil) (fun _ _ _ _ _ => pe_callTy call_int1 (by rfl) T.int (by decide +kernel) (pa_cons (pe_ix (ix_seqK K) (pe_ix (ix_seqK K) (pv 0) (pv 3) (fun _ _ => rfl)) pe_int (fun _ _ => rfl)) pa_nil))) pa_nil)) pa_nil))))))))), ?_⟩
    obtain ⟨ps, ha, lp, hp⟩ := id hh
    refine ⟨.ref a, rfl, a, rs, rfl, hh, hl, ok, nb, fun p H1 s1 hp1 => ⟨p, _, rfl, .inr (SqT.of hp1), fun J G wk hG D hD => ?_⟩⟩
    refine lc_it wk (fun i H' => H' = upd H1 D (.lst (nats (mineI rs k ((partsOf rs).take i))))) rfl (fun i H' _ e => hG _ (by rw [e]; exact same_new hD)) ?_ ?_
    · rintro i x H2 H3 hi rfl ⟨rfl, hx⟩
      have hi2 : i < (partsOf rs).length := by
        unfold nats at hi
        rw [List.length_map] at hi
        exact hi
      have ex : x = .int ((partsOf rs)[i] : Nat) := by
        unfold nats at hx
        rw [List.getElem?_map, List.getElem?_eq_getElem hi2] at hx
        exact (Option.some.inj hx).symm
      subst ex
      obtain ⟨r, er, _⟩ := mem_parts.mp (List.getElem_mem hi2)
      have tk : mineI rs k ((partsOf rs).take (i + 1)) = mineI rs k ((partsOf rs).take i) ++ (if decide (lotOf r (partsOf rs)[i] = k) = true then [(partsOf rs)[i]] else []) := by
        unfold mineI
        rw [List.take_add_one, List.getElem?_eq_getElem hi2, List.filter_append]
        congr 1
        show List.filter _ [(partsOf rs)[i]] = _
        rw [List.filter_cons, er]
        rfl
      rw [tk]
      have ln : (mineI rs k ((partsOf rs).take i)).length ≤ 1000 := by
        have h1 : (partsOf rs).length ≤ rs.length := by
          unfold partsOf
          exact Nat.le_trans (List.length_filter_le _ _) (by simp)
        unfold mineI
        refine Nat.le_trans (List.length_filter_le _ _) ?_
        rw [List.length_take]
        omega
      generalize (partsOf rs)[i] = at_ at er ⊢
      generalize mineI rs k ((partsOf rs).take i) = ms at ln ⊢
      have s2 : Same H (upd H1 D (.lst (nats ms))) := s1.trans (same_new hD)
      have hip : at_ < ps.length := by rw [lp]; exact (List.getElem?_eq_some_iff.mp er).1
      have ep : ps[at_]? = some ps[at_] := List.getElem?_eq_getElem hip
      have row := s2 _ _ (hp at_ ps[at_] r ep er)
      generalize ps[at_] = pp at ep row
      have at1 : atI (ps.map V.ref) (at_ : Int) = some (.ref pp) := at_nat (by rw [List.getElem?_map, ep]; rfl)
      have sqa : Sq K (upd H1 D (.lst (nats ms))) a (ps.map V.ref) := .inl (SqL.of (s2 _ _ ha))
      have sq : Sq K (upd H1 D (.lst (nats ms))) pp (rowV r) := .inr (SqT.of row)
      refine ⟨rfl, lot_val2 rfl rfl sqa at1 sq ⟨oV k, rfl, (by generalize lotOf r at_ = o; cases o <;> cases k <;> rfl), decide (lotOf r at_ = k), ?_, ?_⟩⟩
      · rw [← eq_oV]
      · cases decide (lotOf r at_ = k) with
        | true =>
          refine ⟨_, rfl, _, upd_same, ?_, ?_⟩
          · unfold nats
            rw [List.length_map]
            exact Nat.lt_of_le_of_lt ln (by decide)
          · rw [upd_upd, if_pos rfl]
            unfold nats
            rw [List.map_append]
            rfl
        | false =>
          show _ = _
          rw [if_neg (by decide), List.append_nil]
    · rintro H2 rfl
      have nl : (nats (partsOf rs)).length = (partsOf rs).length := by unfold nats; rw [List.length_map]
      rw [nl, List.take_of_length_le (Nat.le_refl _)]
      have em := mine_has (rs := rs) (k := k)
      have s2 : Same H (upd H1 D (.lst (nats (mineI rs k (partsOf rs))))) := s1.trans (same_new hD)
      have hd : upd H1 D (.lst (nats (mineI rs k (partsOf rs)))) D = some (.lst ((mineI rs k (partsOf rs)).map fun (i : Nat) => V.int (i : Int))) := upd_same
      generalize upd H1 D (.lst (nats (mineI rs k (partsOf rs)))) = H2 at s2 hd ⊢
      have hdi : H2 D = some (.lst (((mineI rs k (partsOf rs)).map fun (i : Nat) => (i : Int)).map V.int)) := by
        rw [List.map_map]
        exact hd
      refine ⟨_, rfl, Nat.zero_le _, fun l hl => ⟨_, _, Dp.lst (SqL.of (same_new hl _ _ hdi)) (dp_ints _), Dp.lst (SqL.of upd_same) .nil, shaped_ints _, by decide +kernel, _, rfl, ?_⟩⟩
      have s3 : Same H (upd H2 l (.lst [])) := s2.trans (same_new hl)
      have hd3 := same_new (o := .lst []) hl _ _ hd
      generalize upd H2 l (.lst []) = H3 at s3 hd3 ⊢
      rw [eqv_nil, List.isEmpty_map, em]
      cases hm : hasM rs k with
      | false => exact iteT' (q0 hm H3 s3)
      | true =>
        refine iteF' ?_
        have look : ∀ at_ ∈ mineI rs k (partsOf rs), ∃ r pp, rs[at_]? = some r ∧ atI (ps.map V.ref) (at_ : Int) = some (.ref pp) ∧ ∀ H', Same H H' → Sq K H' a (ps.map V.ref) ∧ Sq K H' pp (rowV r) := fun at_ m => by
          unfold mineI at m
          have m1 := (List.mem_filter.mp m).1
          obtain ⟨r, er, _⟩ := mem_parts.mp m1
          have hip : at_ < ps.length := by rw [lp]; exact (List.getElem?_eq_some_iff.mp er).1
          have ep : ps[at_]? = some ps[at_] := List.getElem?_eq_getElem hip
          exact ⟨r, ps[at_], er, at_nat (by rw [List.getElem?_map, ep]; rfl), fun H' s => ⟨.inl (SqL.of (s _ _ ha)), .inr (SqT.of (s _ _ (hp at_ ps[at_] r ep er)))⟩⟩
        have mr := mine_rows rs k (partsOf rs)
        have es0 := ends_some hm
        have ne0 : mineR rs k (partsOf rs) ≠ [] := fun z => by rw [z] at es0; exact es0 rfl
        have ml : (mineI rs k (partsOf rs)).length ≤ 1000 := by
          have h1 : (partsOf rs).length ≤ rs.length := by
            unfold partsOf
            exact Nat.le_trans (List.length_filter_le _ _) (by simp)
          unfold mineI
          exact Nat.le_trans (List.length_filter_le _ _) (by omega)
        have q1 := q1 hm
        unfold zoneM at q1
        generalize mineI rs k (partsOf rs) = ms at look mr ml hd3 ⊢
        rw [← mr] at es0 ne0 q1
        refine ⟨.ref D, rfl, D, rfl, ⟨_, SqL.of hd3⟩, fun G hG => ?_⟩
        refine lc_it (walk_list (K := K) (a := D) (xs := ms.map fun (i : Nat) => V.int (i : Int))) (fun i H' => H' = upd H3 G (.lst ((((ms.take i).filterMap fun i => rs[i]?).filterMap (·.e)).map V.int))) rfl (fun i H' _ e => by rw [e]; exact SqL.of (same_new hG _ _ hd3)) ?_ ?_
        · rintro i x H4 H5 hi rfl ⟨rfl, hx⟩
          have hi2 : i < ms.length := by rw [List.length_map] at hi; exact hi
          have ex : x = .int (ms[i] : Nat) := by
            rw [List.getElem?_map, List.getElem?_eq_getElem hi2] at hx
            exact (Option.some.inj hx).symm
          subst ex
          obtain ⟨r, pp, er, at1, sqs⟩ := look ms[i] (List.getElem_mem hi2)
          obtain ⟨sqa, sq⟩ := sqs _ (s3.trans (same_new (o := .lst ((((ms.take i).filterMap fun i => rs[i]?).filterMap (·.e)).map V.int)) hG))
          have tk : ((ms.take (i + 1)).filterMap fun i => rs[i]?).filterMap (·.e) = ((ms.take i).filterMap fun i => rs[i]?).filterMap (·.e) ++ r.e.toList := by
            have one : ∀ r : Row, [r].filterMap (·.e) = r.e.toList := fun r => by cases h : r.e <;> simp [List.filterMap, h]
            have two : [ms[i]].filterMap (fun i => rs[i]?) = [r] := by rw [List.filterMap_cons, er]; rfl
            rw [List.take_add_one, List.getElem?_eq_getElem hi2, List.filterMap_append, List.filterMap_append]
            show _ ++ List.filterMap _ ([ms[i]].filterMap (fun i => rs[i]?)) = _
            rw [two, one]
          rw [tk]
          have ll : (((ms.take i).filterMap fun i => rs[i]?).filterMap (·.e)).length ≤ 1000 := by
            refine Nat.le_trans (List.length_filterMap_le _ _) (Nat.le_trans (List.length_filterMap_le _ _) ?_)
            rw [List.length_take]
            omega
          refine ⟨rfl, .ref a, rfl, _, rfl, Sq.ix sqa at1 (Sq.ix sq rfl ⟨rfl, r.e.isSome, (by cases r.e <;> rfl), ?_⟩)⟩
          cases he : r.e with
          | none =>
            show _ = _
            rw [show (none : Option Int).toList = [] from rfl, List.append_nil]
          | some m =>
            refine ⟨.ref a, rfl, _, rfl, Sq.ix sqa at1 (Sq.ix sq (show atI (rowV r) 3 = some (.int m) from by unfold rowV; rw [he]; rfl) (.inl ⟨m, rfl, _, upd_same, ?_, ?_⟩))⟩
            · rw [List.length_map]
              exact Nat.lt_of_le_of_lt ll (by decide)
            · rw [upd_upd, List.map_append]
              rfl
        · rintro H4 rfl
          rw [List.length_map, List.take_of_length_le (Nat.le_refl _)]
          have s4 : Same H3 (upd H3 G (.lst (((ms.filterMap fun i => rs[i]?).filterMap (·.e)).map V.int))) := same_new hG
          refine ⟨oV k, rfl, min_val (K := K) (a := a) (D := D) (G := G) (k := k) upd_same es0 ?_ fun H6 s5 => ?_⟩
          · refine Nat.le_trans (List.length_filterMap_le _ _) (Nat.le_trans (List.length_filterMap_le _ _) ml)
          have s6 := s3.trans (s4.trans s5)
          have hd6 := s5 _ _ (s4 _ _ hd3)
          refine ⟨.ref D, rfl, D, rfl, ⟨_, SqL.of hd6⟩, fun L hL => ?_⟩
          refine lc_it (walk_list (K := K) (a := D) (xs := ms.map fun (i : Nat) => V.int (i : Int))) (fun i H' => H' = upd H6 L (.lst ((((ms.take i).filterMap fun i => rs[i]?).map (·.b)).map V.int))) rfl (fun i H' _ e => by rw [e]; exact SqL.of (same_new hL _ _ hd6)) ?_ ?_
          · rintro i x H7 H8 hi rfl ⟨rfl, hx⟩
            have hi2 : i < ms.length := by rw [List.length_map] at hi; exact hi
            have ex : x = .int (ms[i] : Nat) := by
              rw [List.getElem?_map, List.getElem?_eq_getElem hi2] at hx
              exact (Option.some.inj hx).symm
            subst ex
            obtain ⟨r, pp, er, at1, sqs⟩ := look ms[i] (List.getElem_mem hi2)
            obtain ⟨sqa, sq⟩ := sqs _ (s6.trans (same_new (o := .lst ((((ms.take i).filterMap fun i => rs[i]?).map (·.b)).map V.int)) hL))
            have tk : ((ms.take (i + 1)).filterMap fun i => rs[i]?).map (·.b) = ((ms.take i).filterMap fun i => rs[i]?).map (·.b) ++ [r.b] := by
              have two : [ms[i]].filterMap (fun i => rs[i]?) = [r] := by rw [List.filterMap_cons, er]; rfl
              rw [List.take_add_one, List.getElem?_eq_getElem hi2, List.filterMap_append, List.map_append]
              show _ ++ List.map _ ([ms[i]].filterMap (fun i => rs[i]?)) = _
              rw [two]
              rfl
            rw [tk]
            refine ⟨rfl, yes_go ⟨.ref a, rfl, _, rfl, Sq.ix sqa at1 (Sq.ix sq rfl (.inl ⟨r.b, rfl, _, upd_same, ?_, ?_⟩))⟩⟩
            · rw [List.length_map, List.length_map]
              refine Nat.lt_of_le_of_lt (Nat.le_trans (List.length_filterMap_le _ _) (show _ ≤ 1000 from ?_)) (by decide)
              rw [List.length_take]
              omega
            · rw [upd_upd, List.map_append]
              rfl
          · rintro H7 rfl
            rw [List.length_map, List.take_of_length_le (Nat.le_refl _)]
            refine ⟨L, _, rfl, SqL.of upd_same, ?_, fun m hm2 hu => ?_⟩
            · rw [List.length_map]
              exact List.length_pos_iff.mpr ne0
            · refine ⟨by show 3 ≤ sizeLine; decide, fun z hz => ?_⟩
              rw [accB_max hm2 hu] at q1
              exact q1 z _ (s6.trans ((same_new hL).trans (same_new hz))) upd_same
end
end K34
end

section
set_option Elab.async false
set_option linter.all false
set_option maxRecDepth 100000
set_option maxHeartbeats 4000000
/-! the zones, by the law -/
namespace K34
open PySem L2 KZ
abbrev sLZones : Stmt := top 28
def spLZones : Sp := fun vs H Q _ => ∃ a rs, vs = [.ref a] ∧ RowsAt H a rs ∧ rs.length ≤ 1000 ∧ (∀ r ∈ rs, r.Ok) ∧ firstBad rs = none ∧ ∀ p H', Same H H' → ZonesAt H' p (zonesOf rs) → Q (.ref p) H'
def ZV (H : Hp) (rs : List Row) (k : Option Int) (v : V) : Prop := (hasM rs k = false ∧ v = .non) ∨ (hasM rs k = true ∧ ∃ q, v = .ref q ∧ ZoneAt H q (zoneM rs k))
def ZVs (H : Hp) (rs : List Row) : List (Option Int) → List V → Prop
  | [], [] => True
  | k :: ks, v :: vs => ZV H rs k v ∧ ZVs H rs ks vs
  | _, _ => False
theorem ZVs.snoc {H : Hp} {rs : List Row} {k : Option Int} {v : V} (h : ZV H rs k v) : ∀ {ks : List (Option Int)} {vs : List V}, ZVs H rs ks vs → ZVs H rs (ks ++ [k]) (vs ++ [v])
  | [], [], _ => ⟨h, True.intro⟩
  | _ :: _, _ :: _, ⟨a, b⟩ => ⟨a, ZVs.snoc h b⟩
  | [], _ :: _, z => z.elim
  | _ :: _, [], z => z.elim
theorem ZVs.mono {H H' : Hp} {rs : List Row} (f : ∀ q z, ZoneAt H q z → ZoneAt H' q z) : ∀ {ks : List (Option Int)} {vs : List V}, ZVs H rs ks vs → ZVs H' rs ks vs
  | [], [], _ => True.intro
  | _ :: _, _ :: _, ⟨a, b⟩ => ⟨a.imp id fun ⟨x, q, e, z⟩ => ⟨x, q, e, f _ _ z⟩, ZVs.mono f b⟩
  | [], _ :: _, z => z.elim
  | _ :: _, [], z => z.elim
theorem ZVs.len {H : Hp} {rs : List Row} : ∀ {ks : List (Option Int)} {vs : List V}, ZVs H rs ks vs → vs.length = ks.length
  | [], [], _ => rfl
  | _ :: _, _ :: _, ⟨_, b⟩ => congrArg (· + 1) (ZVs.len b)
  | [], _ :: _, z => z.elim
  | _ :: _, [], z => z.elim
def isZ : V → Bool
  | .non => false
  | _ => true
theorem ZVs.kept {H : Hp} {rs : List Row} : ∀ {ks : List (Option Int)} {vs : List V}, ZVs H rs ks vs → ∃ qs : List Addr, vs.filter isZ = qs.map V.ref ∧ qs.length = (ks.filter (hasM rs)).length ∧ ∀ (i : Nat) q k, qs[i]? = some q → (ks.filter (hasM rs))[i]? = some k → ZoneAt H q (zoneM rs k)
  | [], [], _ => ⟨[], rfl, rfl, fun i q k e => by cases e⟩
  | k :: ks, v :: vs, ⟨a, b⟩ => by
    obtain ⟨qs, h1, h2, h3⟩ := ZVs.kept b
    rcases a with ⟨a, rfl⟩ | ⟨a, q, rfl, z⟩
    · refine ⟨qs, h1, ?_, ?_⟩
      · rw [List.filter_cons, a]
        exact h2
      · rw [List.filter_cons, a]
        exact h3
    · refine ⟨q :: qs, ?_, ?_, ?_⟩
      · rw [List.filter_cons, h1]
        rfl
      · rw [List.filter_cons, a]
        show qs.length + 1 = _ + 1
        rw [h2]
      · rw [List.filter_cons, a]
        intro i q' k' e1 e2
        cases i with
        | zero => cases e1; cases e2; exact z
        | succ i => exact h3 i q' k' e1 e2
  | [], _ :: _, z => z.elim
  | _ :: _, [], z => z.elim
def lotsL (n : Nat) : List (Option Int) := none :: (List.range n).map fun (i : Nat) => some (i : Int)
theorem lotsL_len (n : Nat) : (lotsL n).length = n + 1 := by
  unfold lotsL
  rw [List.length_cons, List.length_map, List.length_range]
theorem zone_keep {H : Hp} {D : Addr} {xs : List V} {o : HO} (hd : H D = some (.lst xs)) : ∀ q z, ZoneAt H q z → ZoneAt (upd H D o) q z := fun q z h => by
  unfold ZoneAt at h ⊢
  have : q ≠ D := fun e => by rw [e, hd] at h; cases h
  rw [upd_ne this]
  exact h
section
variable {P : Program} {w : World} {K : PySem.W.Frag} {mg : Str → Option Value} {base : Heap} {fL fZ : Addr} {dL dZ : FuncData}
theorem rg_lots (n : Nat) : [V.non] ++ rgV 0 (n : Int) = (lotsL n).map oV := by
  unfold lotsL rgV
  rw [List.map_cons, List.map_map]
  show V.non :: _ = V.non :: _
  congr 1
  rw [show ((n : Int) - 0).toNat = n by omega]
  refine List.map_congr_left fun i _ => ?_
  show V.int (0 + (i : Int)) = V.int (i : Int)
  rw [Int.zero_add]
theorem scLZones : FnScope ["rows", "some", "lot", "zone"] ["rows"] (defScope sLZones) := ⟨rfl, rfl, rfl, by decide +kernel, rfl, by decide +kernel, by decide +kernel⟩
theorem ok_lzones {f : Addr} {fd : FuncData} (F : Fun K "_law_zones" "_law_zones" sLZones f fd) (T : B1 mg) (gL : mg "_law_parts" = some (.ref fL)) (FL : Fun K "_law_parts" "_law_parts" sLParts fL dL) (bL : Binds K dL ["rows"] [])
    (gZ : mg "_law_zone" = some (.ref fZ)) (FZ : Fun K "_law_zone" "_law_zone" sZone fZ dZ) (bZ : Binds K dZ ["rows", "lot"] []) : FnOk P w K mg base CX0 3 f fd ["rows"] spLZones := by
  have GZ : FnOk P w K mg base CX0 2 fZ dZ ["rows", "lot"] spZone := ok_zone FZ T gL FL bL
  refine F.ok scLZones (fun vs H Q E h => ?_) (fun cdv A' outer s H vs Q E hr h => ?_)
  · obtain ⟨a, rs, rfl, _⟩ := h
    rfl
  · obtain ⟨a, rs, rfl, hh, hl, ok, nb, q⟩ := h
    have hr2 : Room 2 _ := hr
    refine ⟨_, (pss_cons (ps_setLc (i := 1) (own := [("lot", 2)]) (g := gName 2) (tt := tYes) (by rfl) scLZones.nd rfl rfl (sw_true rfl rfl rfl (by decide +kernel)) (pi_list (pe_op op_cat (pe_lst (pa_cons pe_non pa_nil)) (pe_listRg rfl (by rfl) T.list (prg_1 (by rfl) T.range (pe_callB call_len (by rfl) T.len PySem.boot_len (pa_cons (pv 0) pa_nil)))))) (blkOk_by (own := [("lot", 2)]) (N := ["rows", "some", "lot", "zone"]) (sc := defScope sLZones) (by decide +kernel)) (fun _ _ _ _ _ => pg_name (i := 2) scLZones.nd rfl (Or.inl rfl)) (fun _ _ _ _ _ => pts_nil) (fun _ _ _ _ _ => pe_call GZ hr2 (by rfl) gZ FZ.kp bZ .nil pass0 (pa_cons (pv 0) (pa_cons (pv 2) pa_nil))))
(pss_one (ps_ret (pe_callTy call_tuple_of (by rfl) T.tuple (by decide +kernel) (pa_cons (pe_lc (own := [("zone", 3)]) (g := gName 3) (by rfl) scLZones.nd (pi_list (pv 1)) (blkOk_by (own := [("zone", 3)]) (N := ["rows", "some", "lot", "zone"]) (sc := defScope sLZones) (by decide +kernel)) (fun _ _ _ _ _ => pg_name (i := 3) scLZones.nd rfl (Or.inl rfl)) (fun _ _ _ _ _ => pts_one (pt_cmpR op_notN (pv 3) pe_non (nomark _))) (fun _ _ _ _ _ => pv 3)) pa_nil))))), ?_⟩
    obtain ⟨ps, ha, lp, hp⟩ := id hh
    refine ⟨by show 1 ≤ sizeLine; decide, fun L1 hL1 => ?_⟩
    have s1 : Same H (upd H L1 (.lst [.non])) := same_new hL1
    have h1 : upd H L1 (.lst [.non]) L1 = some (.lst [.non]) := upd_same
    generalize upd H L1 (.lst [.non]) = H1 at s1 h1 ⊢
    have nl : (ps.map V.ref).length = rs.length := by rw [List.length_map, lp]
    refine ⟨.ref a, rfl, .ref a, (ps.map V.ref).length, rfl, .inl ⟨_, SqL.of (s1 _ _ ha), rfl⟩, _, rfl, RgOk.of_le (by decide) (by rw [nl]; omega) (by decide) (by omega), fun L2 hL2 => ?_⟩
    rw [nl]
    have s2 : Same H (upd H1 L2 (.lst (rgV 0 (rs.length : Nat)))) := s1.trans (same_new hL2)
    have h2 : upd H1 L2 (.lst (rgV 0 (rs.length : Nat))) L2 = some (.lst (rgV 0 (rs.length : Nat))) := upd_same
    have h12 := same_new (o := .lst (rgV 0 (rs.length : Nat))) hL2 _ _ h1
    generalize upd H1 L2 (.lst (rgV 0 (rs.length : Nat))) = H2 at s2 h2 h12 ⊢
    refine ⟨L1, L2, _, _, rfl, rfl, h12, h2, ?_, fun L3 hL3 => ?_⟩
    · rw [rgV_length]
      exact Nat.le_trans (show _ ≤ 1001 by simp; omega) (by decide)
    rw [rg_lots]
    have s3 : Same H (upd H2 L3 (.lst ((lotsL rs.length).map oV))) := s2.trans (same_new hL3)
    have h3 : upd H2 L3 (.lst ((lotsL rs.length).map oV)) L3 = some (.lst ((lotsL rs.length).map oV)) := upd_same
    generalize upd H2 L3 (.lst ((lotsL rs.length).map oV)) = H3 at s3 h3 ⊢
    refine ⟨L3, rfl, ⟨_, SqL.of h3⟩, fun D hD => ?_⟩
    have ln := lotsL_len rs.length
    refine lc_it (walk_list (K := K) (a := L3) (xs := (lotsL rs.length).map oV)) (fun i H' => ∃ vs, H' D = some (.lst vs) ∧ ZVs H' rs ((lotsL rs.length).take i) vs ∧ Same H3 H') ⟨[], upd_same, True.intro, same_new hD⟩ (fun i H' _ ⟨_, _, _, s⟩ => SqL.of (s _ _ h3)) ?_ ?_
    · rintro i x H4 H5 hi ⟨vs, hd, zv, s4⟩ ⟨rfl, hx⟩
      have hi2 : i < (lotsL rs.length).length := by rw [List.length_map] at hi; exact hi
      have ex : x = oV (lotsL rs.length)[i] := by
        rw [List.getElem?_map, List.getElem?_eq_getElem hi2] at hx
        exact (Option.some.inj hx).symm
      subst ex
      have tk : (lotsL rs.length).take (i + 1) = (lotsL rs.length).take i ++ [(lotsL rs.length)[i]] := by
        rw [List.take_add_one, List.getElem?_eq_getElem hi2]
        rfl
      rw [tk]
      have lv : vs.length ≤ 1001 := by
        rw [zv.len, List.length_take]
        omega
      generalize (lotsL rs.length)[i] = k at ⊢
      generalize (lotsL rs.length).take i = ks at zv ⊢
      have put : ∀ v H6, Same H5 H6 → ZV H6 rs k v → ∃ acc, H6 D = some (.lst acc) ∧ acc.length < sizeLine ∧ ∃ vs, upd H6 D (.lst (acc ++ [v])) D = some (.lst vs) ∧ ZVs (upd H6 D (.lst (acc ++ [v]))) rs (ks ++ [k]) vs ∧ Same H3 (upd H6 D (.lst (acc ++ [v]))) := fun v H6 s6 z =>
        ⟨vs, s6 _ _ hd, Nat.lt_of_le_of_lt lv (by decide), vs ++ [v], upd_same, ZVs.mono (zone_keep (s6 _ _ hd)) (ZVs.snoc z (ZVs.mono (fun q z h => s6 _ _ h) zv)), fun b o e => by rw [upd_ne (ne_of_none e hD)]; exact s6 _ _ (s4 _ _ e)⟩
      refine ⟨rfl, yes_go ⟨.ref a, rfl, oV k, rfl, a, rs, k, rfl, hh.mono (s3.trans s4), hl, ok, nb, fun hm H6 s6 => put .non H6 s6 (.inl ⟨hm, rfl⟩), fun hm z H6 s6 hz => put (.ref z) H6 s6 (.inr ⟨hm, z, rfl, hz⟩)⟩⟩
    · rintro H4 ⟨vs, hd, zv, s4⟩
      rw [List.length_map, List.take_of_length_le (Nat.le_refl _)] at zv
      obtain ⟨qs, k1, k2, k3⟩ := zv.kept
      have lv : vs.length ≤ 1001 := by rw [zv.len, ln]; omega
      refine ⟨.ref D, rfl, D, rfl, ⟨_, SqL.of hd⟩, fun G hG => ?_⟩
      refine lc_it (walk_list (K := K) (a := D) (xs := vs)) (fun i H' => H' = upd H4 G (.lst ((vs.take i).filter isZ))) rfl (fun i H' _ e => by rw [e]; exact SqL.of (same_new hG _ _ hd)) ?_ ?_
      · rintro i x H5 H6 hi rfl ⟨rfl, hx⟩
        have tk : (vs.take (i + 1)).filter isZ = (vs.take i).filter isZ ++ (if isZ x = true then [x] else []) := by
          rw [List.take_add_one, hx, List.filter_append]
          congr 1
          show List.filter isZ [x] = _
          rw [List.filter_cons]
          rfl
        rw [tk]
        have lf : ((vs.take i).filter isZ).length < sizeLine := by
          refine Nat.lt_of_le_of_lt (Nat.le_trans (List.length_filter_le _ _) (show _ ≤ 1001 from ?_)) (by decide)
          rw [List.length_take]
          omega
        refine ⟨rfl, x, rfl, rfl, isZ x, (by cases x <;> rfl), ?_⟩
        cases hz : isZ x with
        | true =>
          refine iteT ⟨x, rfl, _, upd_same, lf, ?_⟩
          rw [upd_upd]
          rfl
        | false =>
          refine iteF ?_
          show _ = _
          rw [if_neg (by decide), List.append_nil]
      · rintro H5 rfl
        rw [List.take_of_length_le (Nat.le_refl _), k1]
        refine ⟨G, _, rfl, .inl ⟨SqL.of upd_same, fun l hl => q l _ (s3.trans (s4.trans ((same_new hG).trans (same_new hl)))) ⟨qs, upd_same, ?_, ?_⟩⟩⟩
        · rw [zones_eq ok nb, List.length_map, k2]
          rfl
        · intro i q' z e1 e2
          rw [zones_eq ok nb, List.getElem?_map] at e2
          obtain ⟨k, ek, rfl⟩ := Option.map_eq_some_iff.mp e2
          have z3 := k3 i q' k e1 ek
          exact (same_new hl) _ _ ((same_new hG) _ _ z3)
end
end K34
end

section
set_option Elab.async false
set_option linter.all false
set_option maxRecDepth 100000
set_option maxHeartbeats 4000000
/-! rows that are drawn -/
namespace K34
open PySem L2 KZ
abbrev sRows : Stmt := top 24
structure RowOk (gs : List Bool) (s : Int) (g : Bool) (r : Row) : Prop where
  c : r.c = "a" ∨ r.c = "bob" ∨ r.c = "quitelon"
  g : r.g = g
  b0 : 0 ≤ r.b
  b1 : r.b < s
  e0 : ∀ e, r.e = some e → r.b < e ∧ e < 2 * s + 1
  t0 : ∀ t, r.t = some t → r.g = true ∧ r.e ≠ none ∧ ∃ u : Nat, t = u ∧ gs[u]? = some false
def RowsOk (gs : List Bool) (s : Int) (rs : List Row) : Prop := rs.length ≤ gs.length ∧ ∀ (i : Nat) r g, rs[i]? = some r → gs[i]? = some g → RowOk gs s g r
theorem RowsOk.row {gs : List Bool} {s : Int} {rs : List Row} (h : RowsOk gs s rs) {r : Row} (m : r ∈ rs) : ∃ g, RowOk gs s g r := by
  obtain ⟨i, hi, rfl⟩ := List.mem_iff_getElem.mp m
  have hg : i < gs.length := by have := h.1; omega
  exact ⟨gs[i], h.2 i _ _ (List.getElem?_eq_getElem hi) (List.getElem?_eq_getElem hg)⟩
theorem RowOk.ok {gs : List Bool} {s : Int} {g : Bool} {r : Row} (h : RowOk gs s g r) : r.Ok := by
  refine ⟨?_, h.b0, fun e z => (h.e0 e z).1, fun t z => ?_⟩
  · rcases h.c with z | z | z <;> rw [z] <;> decide +kernel
  · obtain ⟨a, b, u, rfl, _⟩ := h.t0 t z
    exact ⟨a, b, by omega⟩
theorem RowOk.short {gs : List Bool} {s : Int} {g : Bool} {r : Row} (h : RowOk gs s g r) : r.c.length ≤ 8 := by
  rcases h.c with z | z | z <;> rw [z] <;> decide +kernel
theorem RowsOk.ok {gs : List Bool} {s : Int} {rs : List Row} (h : RowsOk gs s rs) : ∀ r ∈ rs, r.Ok := fun r m => by
  obtain ⟨g, k⟩ := h.row m
  exact k.ok
theorem RowsOk.nobad {gs : List Bool} {s : Int} {rs : List Row} (h : RowsOk gs s rs) (e : rs.length = gs.length) : firstBad rs = none := by
  unfold firstBad
  rw [List.find?_range_eq_none]
  intro i hi
  unfold badAt
  rw [List.getElem?_eq_getElem hi]
  have hg : i < gs.length := by omega
  have k := h.2 i _ _ (List.getElem?_eq_getElem hi) (List.getElem?_eq_getElem hg)
  generalize rs[i] = r at k
  show (!(match r.t with
    | none => false
    | some j => decide ((rs.length : Int) ≤ j) || (match rs[j.toNat]? with
      | some r => r.g
      | none => true))) = true
  cases ht : r.t with
  | none => rfl
  | some t =>
    obtain ⟨_, _, u, rfl, hu⟩ := k.t0 t ht
    have hul : u < gs.length := (List.getElem?_eq_some_iff.mp hu).1
    have hur : u < rs.length := by omega
    have k2 := h.2 u _ _ (List.getElem?_eq_getElem hur) hu
    show (!(decide ((rs.length : Int) ≤ (u : Int)) || (match rs[((u : Int)).toNat]? with
      | some r => r.g
      | none => true))) = true
    rw [show ((u : Int)).toNat = u from rfl, List.getElem?_eq_getElem hur]
    show (!(decide ((rs.length : Int) ≤ (u : Int)) || rs[u].g)) = true
    rw [k2.g, decide_eq_false (by omega)]
    rfl
def spRows : Sp := fun vs H Q _ => ∃ (p c : Addr) (cells : List Int) (n k : Nat) (s : Int), vs = [.ref p, .int k, .int s] ∧ PenAt H p c cells n ∧ n ≤ 5000 ∧ k ≤ 14 ∧ 0 < s ∧ s ≤ 1000000000000 ∧
  ∀ a gs rs H', H a = none → gs.length = k → rs.length = k → RowsOk gs s rs → RowsAt H' a rs → PenAt H' p c cells (n + 100) → Kept p H H' → Q (.ref a) H'
theorem PenAt.more {H : Hp} {p c : Addr} {cells : List Int} {n m : Nat} (h : PenAt H p c cells n) (hn : n ≤ m) : PenAt H p c cells m := h.mono (Same.refl H) hn
theorem PenAt.nn {H : Hp} {p c : Addr} {cells : List Int} {n : Nat} (h : PenAt H p c cells n) {L : Addr} (e : H L = none) : L ≠ p ∧ L ≠ c := by
  obtain ⟨a, g, hp, _⟩ := h.ex
  exact ⟨(ne_of_none hp e).symm, (ne_of_none h.cs e).symm⟩
theorem PenAt.upd {H : Hp} {p c : Addr} {cells : List Int} {n : Nat} (h : PenAt H p c cells n) {L : Addr} {o : HO} (e : L ≠ p ∧ L ≠ c) : PenAt (upd H L o) p c cells n := by
  obtain ⟨a, g, h1, h2⟩ := h.ex
  exact ⟨⟨a, g, by rw [upd_ne e.1.symm]; exact h1, h2⟩, by rw [upd_ne e.2.symm]; exact h.cs, h.few, h.ne⟩
theorem Kept.upd {p : Addr} {H H1 : Hp} (k : Kept p H H1) {L : Addr} {o : HO} (e : H L = none) : Kept p H (upd H1 L o) := fun b u hb z => by
  rw [upd_ne (ne_of_none z e)]
  exact k b u hb z
theorem Kept.nn {p : Addr} {H H1 : Hp} (k : Kept p H H1) {L : Addr} (e : H1 L = none) (hp : L ≠ p) : H L = none := by
  cases h : H L with
  | none => rfl
  | some o =>
    have := k L o hp h
    rw [e] at this
    cases this
theorem asg_of {te : TE} {g : TG} {rest : TS} {D : Ends} {σ : L2.St} {H : Hp} (good : V → Hp → Prop) (h : ∀ Q : VK, (∀ v H', good v H' → Q v H') → te σ H Q) (go : ∀ v H', good v H' → g v σ H' (rest D)) : tSeq (tAsg te g) rest D σ H := h _ go
theorem nx_go {i : Nat} {v : V} {σ : L2.St} {H : Hp} {k : L2.St → Hp → Prop} (h : k (σ.set i (some v)) H) : gName i v σ H k := h
theorem seq_c {v : V} {i : Nat} {rest : TS} {D : Ends} {σ : L2.St} {H : Hp} (go : rest D (σ.set i (some v)) H) : tSeq (tAsg (tC v) (gName i)) rest D σ H := go
theorem if_told {c : TT} {te : TE} {i : Nat} {rest : TS} {D : Ends} {σ : L2.St} {H : Hp} (P1 : Bool → Hp → Prop) (good : Option Int → Hp → Prop) (h0 : σ = σ.set i (some .non)) (hc : ∀ Q : Bool → Hp → Prop, (∀ b H', P1 b H' → Q b H') → c σ H Q)
    (ht : ∀ H', P1 true H' → ∀ Q : VK, (∀ t H2, good t H2 → Q (oV t) H2) → te σ H' Q) (hf : ∀ H', P1 false H' → good none H') (go : ∀ t H', good t H' → rest D (σ.set i (some (oV t))) H') : tSeq (tIfS c (tAsg te (gName i)) tNext) rest D σ H := by
  refine hc _ fun b H' p => ?_
  cases b with
  | true => exact iteT (ht H' p _ fun t H2 g => go t H2 g)
  | false =>
    refine iteF ?_
    have z := go none H' (hf H' p)
    have e : σ.set i (some (oV none)) = σ := h0.symm
    rw [e] at z
    exact z
def putsB (gs : List Bool) (i : Nat) : Bool := match gs[i]? with
  | some g => !g
  | none => false
section
variable {P : Program} {w : World} {K : PySem.W.Frag} {mg : Str → Option Value} {base : Heap} {fD fO : Addr} {dD dO : FuncData}
theorem scRows : FnScope ["well", "many", "span", "words", "turn", "puts_so", "found", "at", "begun", "ended", "told"] ["well", "many", "span"] (defScope sRows) := ⟨rfl, rfl, rfl, by decide +kernel, rfl, by decide +kernel, by decide +kernel⟩
theorem ok_rows {f : Addr} {fd : FuncData} (F : Fun K "_law_rows" "_law_rows" sRows f fd) (T : B1 mg) (gD : mg "_law_draw" = some (.ref fD)) (FD : Fun K "_law_draw" "_law_draw" sDraw fD dD) (bD : Binds K dD ["well", "many"] [])
    (gO : mg "_law_one" = some (.ref fO)) (FO : Fun K "_law_one" "_law_one" sOne fO dO) (bO : Binds K dO ["well", "some"] []) : FnOk P w K mg base CX0 3 f fd ["well", "many", "span"] spRows := by
  have GD : FnOk P w K mg base CX0 1 fD dD ["well", "many"] spDraw := ok_draw FD T
  have GO : FnOk P w K mg base CX0 2 fO dO ["well", "some"] spOne := ok_one FO T gD FD bD
  refine F.ok scRows (fun vs H Q E h => ?_) (fun cdv A' outer s0 H vs Q E hr h => ?_)
  · obtain ⟨p, c, cells, n, k, s, rfl, _⟩ := h
    rfl
  · obtain ⟨p, c, cells, n, k, s, rfl, pen, hn, hk, hs0, hs1, q⟩ := h
    have hr2 : Room 2 _ := hr
    have hr1 : Room 1 _ := hr.mono (by decide)
    refine ⟨_, (pss_cons (ps_set (i := 3) scRows.nd rfl (Or.inr rfl) (pe_lc (own := [("turn", 4)]) (g := gName 4) (tt := tYes) (by rfl) scRows.nd (pi_range1 (by rfl) T.range (pa_cons (pv 1) pa_nil)) (blkOk_by (own := [("turn", 4)]) (N := ["well", "many", "span", "words", "turn", "puts_so", "found", "at", "begun", "ended", "told"]) (sc := defScope sRows) (by decide +kernel)) (fun _ _ _ _ _ => pg_name (i := 4) scRows.nd rfl (Or.inl rfl)) (fun _ _ _ _ _ => pts_nil) (fun _ _ _ _ _ => pe_call GO hr2 (by rfl) gO FO.kp bO .nil pass0 (pa_cons (pv 0) (pa_cons (pe_lst (pa_cons pe_str (pa_cons pe_str (pa_cons pe_str pa_nil)))) pa_nil)))))
(pss_cons (ps_par (i := 5) (j := 6) (by rfl) scRows.nd rfl rfl (by decide) rfl rfl (pa_cons (pe_lc (own := [("at", 7)]) (g := gName 7) (by rfl) scRows.nd (pi_range1 (by rfl) T.range (pa_cons (pv 1) pa_nil)) (blkOk_by (own := [("at", 7)]) (N := ["well", "many", "span", "words", "turn", "puts_so", "found", "at", "begun", "ended", "told"]) (sc := defScope sRows) (by decide +kernel)) (fun _ _ _ _ _ => pg_name (i := 7) scRows.nd rfl (Or.inl rfl)) (fun _ _ _ _ _ => pts_one (pt_cmpR op_eq (pe_ix (ix_seqK K) (pv 3) (pv 7) (fun _ _ => rfl)) pe_str (nomark _))) (fun _ _ _ _ _ => pv 7)) (pa_cons (pe_lst pa_nil) pa_nil)) (by rfl))
(pss_cons (ps_for PassesOwn.never rfl (pi_range1 (by rfl) T.range (pa_cons (pv 1) pa_nil)) (pg_name (i := 7) scRows.nd rfl (Or.inl rfl))
(pss_cons (ps_set (i := 8) scRows.nd rfl (Or.inl rfl) (pe_call GD hr1 (by rfl) gD FD.kp bD .nil pass0 (pa_cons (pv 0) (pa_cons (pv 2) pa_nil))))
(pss_cons (ps_set (i := 9) scRows.nd rfl (Or.inl rfl) (pe_ifExp (pt_cmpR op_eq (pe_call GD hr1 (by rfl) gD FD.kp bD .nil pass0 (pa_cons (pv 0) (pa_cons pe_int pa_nil))) pe_int (nomark _)) pe_non (pe_op op_add (pe_op op_add (pv 8) pe_int) (pe_call GD hr1 (by rfl) gD FD.kp bD .nil pass0 (pa_cons (pv 0) (pa_cons (pv 2) pa_nil))))))
(pss_cons (ps_set (i := 10) scRows.nd rfl (Or.inl rfl) pe_non)
(pss_cons (ps_if (PW.pt (pw_and (pt_cmpR op_eq (pe_ix (ix_seqK K) (pv 3) (pv 7) (fun _ _ => rfl)) pe_str (nomark _)) (pw_and (pt_cmpR op_notN (pv 9) pe_non (nomark _)) (pw_and (pt_cmpR (op_neD hr.units) (pv 5) (pe_lst pa_nil) (nomark _)) (pw_and1 (pt_cmpR op_gt (pe_call GD hr1 (by rfl) gD FD.kp bD .nil pass0 (pa_cons (pv 0) (pa_cons pe_int pa_nil))) pe_int (nomark _)))))))
(pss_one (ps_set (i := 10) scRows.nd rfl (Or.inl rfl) (pe_call GO hr2 (by rfl) gO FO.kp bO .nil pass0 (pa_cons (pv 0) (pa_cons (pv 5) pa_nil)))))
pss_nil)
(pss_one (ps_expr (pe_bm PySem.F.plainAttrs_list PySem.F.slot_list_append PySem.F.type_list_append mt_append (pv 6) (pa_cons (pe_tup (pa_cons (pe_call GO hr2 (by rfl) gO FO.kp bO .nil pass0 (pa_cons (pv 0) (pa_cons (pe_lst (pa_cons pe_str (pa_cons pe_str (pa_cons pe_str pa_nil)))) pa_nil))) (pa_cons (pe_ix (ix_seqK K) (pv 3) (pv 7) (fun _ _ => rfl)) (pa_cons (pv 8) (pa_cons (pv 9) (pa_cons (pv 10) pa_nil)))))) pa_nil)))))))))
(pss_one (ps_ret (pv 6)))))), ?_⟩
    refine ⟨.int k, rfl, (k : Int), rfl, by omega, by omega, fun W hW => ?_⟩
    have hWp := pen.nn hW
    refine lc_it (walk_range (lo := 0) (n := k)) (fun i H' => ∃ gs : List Bool, gs.length = i ∧ H' W = some (.lst (gs.map fun g => V.str (wd g))) ∧ PenAt H' p c cells (n + i) ∧ Kept p H H') ⟨[], rfl, upd_same, pen.mono (same_new hW) (by omega), Kept.of (same_new hW)⟩ (fun _ _ _ _ => True.intro) ?_ ?_
    · rintro i x H0_ H1 hi ⟨gs, gl, hw, pn, kp⟩ ⟨rfl, _⟩
      refine ⟨rfl, yes_go ⟨.ref p, rfl, by show 3 ≤ sizeLine; decide, fun L hL => ?_⟩⟩
      have pl : PenAt (upd H1 L (.lst [V.str "put", V.str "get", V.str "get"])) p c cells (n + i) := pn.mono (same_new hL) (Nat.le_refl _)
      refine ⟨p, c, L, cells, n + i, _, rfl, pl, by omega, upd_same, (pn.nn hL).1, by decide, by decide, fun j x H3 ex pn3 kp3 => ?_⟩
      obtain ⟨g, rfl⟩ : ∃ g, x = .str (wd g) := by
        rcases j with _ | _ | _ | j
        · exact ⟨false, (Option.some.inj ex).symm⟩
        · exact ⟨true, (Option.some.inj ex).symm⟩
        · exact ⟨true, (Option.some.inj ex).symm⟩
        · cases ex
      have kl : Kept p H H3 := kp.trans ((Kept.of (same_new hL)).trans kp3)
      refine ⟨_, kp3 _ _ hWp.1 (same_new hL _ _ hw), ?_, gs ++ [g], ?_, ?_, pn3.upd hWp, kl.upd hW⟩
      · rw [List.length_map, gl]
        exact Nat.lt_of_lt_of_le (show i < 14 by omega) (by decide)
      · rw [List.length_append, gl]; rfl
      · rw [upd_same, List.map_append]; rfl
    rintro H2 ⟨gs, gl, hw, pn, kp⟩
    -- the puts
    refine ⟨.int k, rfl, (k : Int), rfl, by omega, by omega, fun U hU => ?_⟩
    have hUp := pn.nn hU
    refine lc_it (walk_range (lo := 0) (n := k)) (fun i H' => H' = upd H2 U (.lst (nats ((List.range i).filter (putsB gs))))) rfl (fun _ _ _ _ => True.intro) ?_ ?_
    · rintro i x H3 H4 hi rfl ⟨rfl, hx⟩
      have ex : x = .int (i : Int) := by
        rw [hx]
        show V.int (0 + (i : Int)) = _
        rw [Int.zero_add]
      subst ex
      obtain ⟨g, hg⟩ : ∃ g, gs[i]? = some g := ⟨_, List.getElem?_eq_getElem (show i < gs.length by omega)⟩
      have atw : atI (gs.map fun g => V.str (wd g)) (i : Int) = some (.str (wd g)) := at_nat (by rw [List.getElem?_map, hg]; rfl)
      have tk : nats ((List.range (i + 1)).filter (putsB gs)) = nats ((List.range i).filter (putsB gs)) ++ (if g = false then [V.int (i : Int)] else []) := by
        have pb : putsB gs i = !g := by unfold putsB; rw [hg]
        rw [List.range_succ, List.filter_append]
        cases g with
        | true => simp [nats, pb]
        | false => simp [nats, pb]
      rw [tk]
      refine ⟨rfl, .ref W, rfl, .int i, rfl, Sq.ix (.inl (SqL.of (same_new hU _ _ hw))) atw ⟨rfl, !g, (by cases g <;> decide +kernel), ?_⟩⟩
      cases g with
      | true =>
        show _ = _
        rw [if_neg (by decide), List.append_nil]
      | false =>
        refine ⟨_, rfl, _, upd_same, ?_, ?_⟩
        · unfold nats
          rw [List.length_map]
          refine Nat.lt_of_le_of_lt (Nat.le_trans (List.length_filter_le _ _) (show _ ≤ 14 from ?_)) (by decide)
          rw [List.length_range]
          omega
        · rw [upd_upd]
          rfl
    rintro H3 rfl
    refine ⟨Nat.zero_le _, fun F hF => ⟨_, _, rfl, ?_⟩⟩
    have s3 : Same H2 (upd H2 U (.lst (nats ((List.range k).filter (putsB gs))))) := same_new hU
    have hu3 : upd H2 U (.lst (nats ((List.range k).filter (putsB gs)))) U = some (.lst (nats ((List.range k).filter (putsB gs)))) := upd_same
    have pn3 := pn.mono s3 (Nat.le_refl _)
    have kp3 := kp.trans (Kept.of s3)
    have hw3 := s3 _ _ hw
    generalize upd H2 U (.lst (nats ((List.range k).filter (putsB gs)))) = H3 at hF pn3 kp3 hw3 hu3 ⊢
    have hFp := pn3.nn hF
    have fin0 : ∀ (g : Bool) (i : Nat), gs[i]? = some g → atI (gs.map fun g => V.str (wd g)) (i : Int) = some (.str (wd g)) := fun g i hg => at_nat (by rw [List.getElem?_map, hg]; rfl)
    refine ⟨.int k, rfl, (k : Int), rfl, by omega, by omega, for_range (n := k) (fun i σ H' => ∃ x7 x8 x9 x10 rs ps, σ = [some (.ref p), some (.int k), some (.int s), some (.ref W), none, some (.ref U), some (.ref F), x7, x8, x9, x10] ∧ rs.length = i ∧
      (∀ (j : Nat) r g, rs[j]? = some r → gs[j]? = some g → RowOk gs s g r) ∧ H' F = some (.lst (ps.map V.ref)) ∧ ps.length = i ∧ (∀ (j : Nat) q r, ps[j]? = some q → rs[j]? = some r → RowAt H' q r) ∧ PenAt H' p c cells (n + 14 + 6 * i) ∧ Kept p H3 H')
      ⟨_, _, _, _, [], [], rfl, rfl, fun j r g e => (by cases e), upd_same, rfl, fun j q r e => (by cases e), (pn3.mono (same_new hF) (by omega)), Kept.of (same_new hF)⟩ ?_ ?_⟩
    · rintro i σ H5 hi ⟨x7, x8, x9, x10, rs, ps, rfl, rl, ro, hf, pl, ra, pn5, kp5⟩
      obtain ⟨g, hg⟩ : ∃ g, gs[i]? = some g := ⟨_, List.getElem?_eq_getElem (show i < gs.length by omega)⟩
      have ix0 : (V.int (0 + (i : Int))) = V.int (i : Int) := by rw [Int.zero_add]
      have sqw : ∀ H', Kept p H3 H' → Sq K H' W (gs.map fun g => V.str (wd g)) := fun H' z => .inl (SqL.of (z _ _ hWp.1 hw3))
      have atw := fin0 g i hg
      rw [ix0]
      refine ⟨.ref p, rfl, .int s, rfl, p, c, cells, _, s, rfl, pn5, by omega, hs0, hs1, fun b H6 b0 b1 pn6 kp6 => ?_⟩
      refine nx_go ?_
      dsimp only
      refine asg_of (fun v H' => ∃ e : Option Int, v = oV e ∧ (∀ x, e = some x → b < x ∧ x < 2 * s + 1) ∧ PenAt H' p c cells (n + 14 + 6 * i + 3) ∧ Kept p H5 H') (fun Q z => ?_) (fun v H7 ⟨e, ev, e1, pn7, kp7⟩ => ?_)
      · refine ⟨.ref p, rfl, p, c, cells, _, 4, rfl, pn6, by omega, by decide, by decide, fun d H7 d0 d1 pn7 kp7 => ⟨rfl, decide (d = 0), ?_, ?_⟩⟩
        · by_cases h : d = 0
          · rw [h]; rfl
          · rw [decide_eq_false h, decide_eq_false (fun y => h (V.int.inj y))]
        · by_cases h : d = 0
          · rw [decide_eq_true h]
            exact iteT' (z _ _ ⟨none, rfl, fun x y => (nomatch y), pn7.more (by omega), kp6.trans kp7⟩)
          · rw [decide_eq_false h]
            refine iteF' ⟨_, rfl, b, 1, rfl, rfl, .ref p, rfl, .int s, rfl, p, c, cells, _, s, rfl, pn7, by omega, hs0, hs1, fun y H8 y0 y1 pn8 kp8 => ⟨_, _, rfl, rfl, z _ _ ⟨some (b + 1 + y), rfl, fun x hx => ?_, pn8.more (by omega), kp6.trans (kp7.trans kp8)⟩⟩⟩
            cases hx
            exact ⟨by omega, by omega⟩
      · subst ev
        refine nx_go ?_
        refine seq_c ?_
        refine if_told (fun v H' => PenAt H' p c cells (n + 14 + 6 * i + 4) ∧ Kept p H5 H' ∧ (v = true → g = true ∧ e ≠ none ∧ nats ((List.range k).filter (putsB gs)) ≠ []))
          (fun t H' => PenAt H' p c cells (n + 14 + 6 * i + 5) ∧ Kept p H5 H' ∧ ∀ x, t = some x → g = true ∧ e ≠ none ∧ ∃ u : Nat, x = u ∧ gs[u]? = some false) rfl (fun Q z => ?_) (fun H8 ⟨pn8, kp8, ok8⟩ Q z => ?_) (fun H8 ⟨pn8, kp8, _⟩ => ⟨pn8.more (by omega), kp8, fun x y => (nomatch y)⟩) (fun t H8 ⟨pn8, kp8, tk⟩ => ?_)
        · refine ⟨.ref W, rfl, .int i, rfl, Sq.ix (sqw _ (kp5.trans kp7)) atw ⟨rfl, g, (by cases g <;> decide +kernel), ?_⟩⟩
          cases hgv : g with
          | false => exact iteF' (z _ _ ⟨pn7.more (by omega), kp7, fun y => (nomatch y)⟩)
          | true =>
            refine iteT' ⟨oV e, rfl, rfl, e.isSome, (by cases e <;> rfl), ?_⟩
            cases hev : e with
            | none => exact iteF' (z _ _ ⟨pn7.more (by omega), kp7, fun y => (nomatch y)⟩)
            | some e' =>
              refine iteT' ⟨.ref U, rfl, Nat.zero_le _, fun L hL => ?_⟩
              have hu7 := (kp5.trans kp7) _ _ hUp.1 hu3
              have nm : nats ((List.range k).filter (putsB gs)) = (((List.range k).filter (putsB gs)).map fun (i : Nat) => (i : Int)).map V.int := by
                unfold nats
                rw [List.map_map]
                rfl
              have sL : Same H7 (upd H7 L (.lst [])) := same_new hL
              refine ⟨_, _, Dp.lst (SqL.of (sL _ _ (nm ▸ hu7))) (dp_ints _), Dp.lst (SqL.of upd_same) .nil, shaped_ints _, by decide +kernel, _, rfl, ?_⟩
              rw [eqv_nil]
              have pnL := pn7.mono sL (Nat.le_refl _)
              have kpL : Kept p H5 (upd H7 L (.lst [])) := kp7.trans (Kept.of sL)
              cases hn0 : (((List.range k).filter (putsB gs)).map fun (i : Nat) => (i : Int)).isEmpty with
              | true => exact iteF' (z _ _ ⟨pnL.more (by omega), kpL, fun y => (nomatch y)⟩)
              | false =>
                refine iteT' ⟨.ref p, rfl, p, c, cells, _, 4, rfl, pnL, by omega, by decide, by decide, fun d H8 d0 d1 pn8 kp8 => ⟨d, 0, rfl, rfl, _, rfl, z _ _ ⟨pn8.more (by omega), kpL.trans kp8, fun _ => ⟨hgv, fun y => (by rw [hev] at y; cases y), fun y => ?_⟩⟩⟩⟩
                rw [nm] at y
                rw [List.map_eq_nil_iff.mp y] at hn0
                cases hn0
        · obtain ⟨g1, e2, ne⟩ := ok8 rfl
          have hu8 := (kp5.trans kp8) _ _ hUp.1 hu3
          refine ⟨.ref p, rfl, .ref U, rfl, p, c, U, cells, _, _, rfl, pn8, by omega, hu8, hUp.1, List.length_pos_iff.mpr ne, ?_, fun j x H9 ex pn9 kp9 => ?_⟩
          · unfold nats
            rw [List.length_map]
            refine Nat.le_trans (List.length_filter_le _ _) ?_
            rw [List.length_range]
            omega
          · unfold nats at ex
            rw [List.getElem?_map] at ex
            obtain ⟨u, hu, rfl⟩ := Option.map_eq_some_iff.mp ex
            have mu := (List.mem_filter.mp (List.mem_of_getElem? hu)).2
            refine z (some (u : Int)) _ ⟨pn9.more (by omega), kp8.trans kp9, fun y hy => ⟨g1, e2, u, (Option.some.inj hy).symm, ?_⟩⟩
            unfold putsB at mu
            cases hgu : gs[u]? with
            | none => rw [hgu] at mu; cases mu
            | some gu =>
              rw [hgu] at mu
              cases gu with
              | true => cases mu
              | false => rfl
        · have hf8 := kp8 _ _ hFp.1 hf
          refine ⟨.ref F, rfl, .inl ⟨rfl, _, SqL.of hf8⟩, .ref p, rfl, by show 3 ≤ sizeLine; decide, fun L hL => ?_⟩
          have pL := pn8.mono (same_new (o := .lst [V.str "a", V.str "bob", V.str "quitelon"]) hL) (Nat.le_refl _)
          refine ⟨p, c, L, cells, _, _, rfl, pL, by omega, upd_same, (pn8.nn hL).1, by decide, by decide, fun j x H9 ex pn9 kp9 => ?_⟩
          have kp59 : Kept p H5 H9 := kp8.trans ((Kept.of (same_new hL)).trans kp9)
          obtain ⟨nm, rfl, hnm⟩ : ∃ nm : Str, x = .str nm ∧ (nm = "a" ∨ nm = "bob" ∨ nm = "quitelon") := by
            rcases j with _ | _ | _ | j
            · exact ⟨_, (Option.some.inj ex).symm, .inl rfl⟩
            · exact ⟨_, (Option.some.inj ex).symm, .inr (.inl rfl)⟩
            · exact ⟨_, (Option.some.inj ex).symm, .inr (.inr rfl)⟩
            · cases ex
          have hf9 := kp59 _ _ hFp.1 hf
          refine ⟨.ref W, rfl, .int i, rfl, Sq.ix (sqw _ (kp5.trans kp59)) atw ⟨_, rfl, _, rfl, _, rfl, by show 5 ≤ sizeLine; decide, fun T0 hT0 => ?_⟩⟩
          refine ⟨F, _, _, rfl, rfl, same_new hT0 _ _ hf9, ?_, ?_⟩
          · rw [List.length_map, pl]
            exact Nat.lt_of_lt_of_le (show i < 14 by omega) (by decide)
          · have hT := pn9.nn hT0
            have nFT : T0 ≠ F := (ne_of_none hf9 hT0).symm
            refine ⟨_, _, _, _, rs ++ [⟨nm, g, b, e, t⟩], ps ++ [T0], rfl, by rw [List.length_append, rl]; rfl, ?_, by rw [upd_same, List.map_append]; rfl, by rw [List.length_append, pl]; rfl, ?_, ?_, ?_⟩
            · intro j r g' e3 e4
              by_cases hj : j < rs.length
              · rw [List.getElem?_append_left hj] at e3
                exact ro j r g' e3 e4
              · rw [List.getElem?_append_right (by omega)] at e3
                have hj0 : j - rs.length = 0 := by
                  cases hz : j - rs.length with
                  | zero => rfl
                  | succ m => rw [hz] at e3; cases e3
                rw [hj0] at e3
                have : j = i := by omega
                subst this
                rw [hg] at e4
                cases e3
                cases e4
                exact ⟨hnm, rfl, b0, b1, e1, tk⟩
            · intro j q r e3 e4
              by_cases hj : j < ps.length
              · rw [List.getElem?_append_left hj] at e3
                rw [List.getElem?_append_left (by omega)] at e4
                have old := ra j q r e3 e4
                have qp : q ≠ p := fun z => by
                  obtain ⟨a1, g1, h1, _⟩ := pn5.ex
                  unfold RowAt at old
                  rw [z, h1] at old
                  cases old
                have qF : q ≠ F := fun z => by
                  unfold RowAt at old
                  rw [z, hf] at old
                  cases old
                unfold RowAt
                rw [upd_ne qF]
                exact same_new hT0 _ _ (kp59 _ _ qp old)
              · rw [List.getElem?_append_right (by omega)] at e3
                rw [List.getElem?_append_right (by omega)] at e4
                have hj0 : j - ps.length = 0 := by
                  cases hz : j - ps.length with
                  | zero => rfl
                  | succ m => rw [hz] at e3; cases e3
                rw [hj0] at e3
                rw [show j - rs.length = 0 by omega] at e4
                cases e3
                cases e4
                unfold RowAt
                rw [upd_ne nFT, upd_same]
                rfl
            · exact ((pn9.mono (same_new hT0) (Nat.le_refl _)).upd hFp).more (by omega)
            · exact ((kp5.trans kp59).trans (Kept.of (same_new hT0))).upd hF
    · rintro σ H5 ⟨x7, x8, x9, x10, rs, ps, rfl, rl, ro, hf, pl, ra, pn5, kp5⟩
      exact ⟨.ref F, rfl, q F gs rs H5 (kp3.nn hF hFp.1) gl rl ⟨by omega, ro⟩ ⟨ps, hf, by omega, ra⟩ (pn5.more (by omega)) (kp3.trans kp5)⟩
end
end K34
end

section
set_option Elab.async false
set_option linter.all false
set_option maxRecDepth 100000
set_option maxHeartbeats 4000000
/-! what is heard of a call -/
namespace K34
open PySem L2 KZ
abbrev sHeard : Stmt := top 29
theorem scHeard : FnScope ["work", "caught", "error"] ["work"] (defScope sHeard) := ⟨rfl, rfl, rfl, by decide +kernel, rfl, by decide +kernel, by decide +kernel⟩
structure HErr (K : PySem.W.Frag) (cO cB cT : Addr) : Prop where
  tB : ExcT K cB
  tT : ExcT K cT
  eB : PySem.W.exmOne K (.ref cB) (.ref cO) = some true
  eT : PySem.W.exmOne K (.ref cT) (.ref cO) = some true
  bb : PySem.W.kitOne K (.ref cB) (.ref cB) = some true
  bv : PySem.W.kitOne K (.ref cB) (.type "ValueError") = some true
  bt : PySem.W.kitOne K (.ref cB) (.ref cT) = some false
  tb : PySem.W.kitOne K (.ref cT) (.ref cB) = some false
  tt : PySem.W.kitOne K (.ref cT) (.ref cT) = some true
  nP : PySem.W.findIn K (.ref cB) "part" = some none
  nW : PySem.W.findIn K (.ref cT) "what" = some none
  nM : PySem.W.findIn K (.ref cT) "most" = some none
/-- what can be told of a value -/
def Tell (d : PyData) : Prop := d.showable = true ∧ d.shown.length ≤ 10000 ∧ d.depth ≤ 40
def HeardE (K : PySem.W.Frag) (cB cT : Addr) (Q : VK) : XK := fun cls d H => ∃ dd fs, d = some dd ∧ H dd = some (.xd fs) ∧
  ((cls = .ref cB ∧ ∃ v p, fs.lookup ("part" : Str) = some v ∧ Dv K H v p ∧ Tell p ∧ ∀ t H2, Same H H2 → H2 t = some (.tup [.str "ask", .str p.shown]) → Q (.ref t) H2) ∨
   (cls = .ref cT ∧ ∃ v p u m, fs.lookup ("what" : Str) = some v ∧ Dv K H v p ∧ Tell p ∧ fs.lookup ("most" : Str) = some u ∧ Dv K H u m ∧ Tell m ∧ ∀ t H2, Same H H2 → H2 t = some (.tup [.str "many", .str p.shown, .str m.shown]) → Q (.ref t) H2))
def HeardL (Q : VK) : VK := fun _ H => ∀ t H2, Same H H2 → H2 t = some (.tup [.str "let"]) → Q (.ref t) H2
def TTh (K : PySem.W.Frag) (cB cT : Addr) : (XK → Hp → VK → Prop) → Hp → VK → Prop := fun tl H Q => ∀ Q' : VK, (∀ v H', HeardL Q v H' → Q' v H') → tl (HeardE K cB cT Q) H Q'
theorem heard_gives {X : Cx} {K : PySem.W.Frag} {cO cB cT g : Addr} {cdg : Value} {q : Str} (hK : X.K = K) (hgd : X.A.guards = some []) (hr : Room 2 X.A) (hmd : ModsD X.base) (gO : X.mg "OpenError" = some (.ref cO)) (gB : X.mg "BadAsk" = some (.ref cB)) (gT : X.mg "TooMany" = some (.ref cT)) (gV : X.mg "ValueError" = none) (T : B1 X.mg) (EB : HErr K cO cB cT) :
    LamX.GivesTo X ["work", "caught", "error"] "_law_heard" (defScope sHeard) g cdg (defBody sHeard) "work" q (TTh K cB cT) := by
  subst hK
  intro f c' s H Q tl act hc h
  let K := X.K
  let Z := (cxOf C8.CX0 X.prog X.w X.K X.mg X.base ["work", "caught", "error"] "_law_heard" (defScope sHeard) g cdg X.A X.stack s H C8.E0).nox
  have hu : Z.A.units + 64 < cLine := (hr.deeper (PyProof.Rows.envOfC "_law_heard" (defScope sHeard) s.heap.objs.size g cdg)).units
  refine ⟨_, pss_cons (X := Z) (ps_set (i := 1) scHeard.nd rfl (Or.inl rfl) pe_non)
    (pss_cons (ps_try_keep (X := Z) (c := .ref cO) (i := 2) (j := 1)
      (tb := fun W D σ H => ∃ Ech : XK, (∀ cls d σ' H', Ech cls d H' → σ'.length = 3 → W cls d σ' H') ∧ σ[0]? = some (some (.ref f)) ∧ H c' = some (LamX.CodeO c' q) ∧ tl Ech H fun _ H' => D.nx σ H')
      rfl rfl rfl scHeard.nd rfl rfl rfl rfl ⟨rfl, rfl, .inl gO⟩ LamX.takes0 rfl rfl rfl (fun W pn xe tk _ => ?_))
    (pss_cons (ps_if (pt_cmpR op_isN (pv 1) pe_non (nomark _))
(pss_one (ps_ret (pe_tup (pa_cons pe_str pa_nil))))
pss_nil)
(pss_cons (ps_if (PW.pt (pw_and (pt_val (pe_callB call_isE (by rfl) T.isi (by decide +kernel) (pa_cons (pv 1) (pa_cons (pe_glob (v := .ref cB) (by rfl) gB rfl) pa_nil)))) (pw_and (pt_val (pe_callB call_isE (by rfl) T.isi (by decide +kernel) (pa_cons (pv 1) (pa_cons (pe_bltn (v := .ty "ValueError") (by rfl) gV (by decide +kernel) rfl) pa_nil)))) (pw_and1 (pt_not (pt_val (pe_callB call_isE (by rfl) T.isi (by decide +kernel) (pa_cons (pv 1) (pa_cons (pe_glob (v := .ref cT) (by rfl) gT rfl) pa_nil)))))))))
(pss_one (ps_ret (pe_tup (pa_cons pe_str (pa_cons (pe_callB (call_reprD (X := Z) hgd hu hmd) (by rfl) T.repr (by decide +kernel) (pa_cons (pe_efK K (pv 1)) pa_nil)) pa_nil)))))
pss_nil)
(pss_one (ps_ret (pe_ifExp (pt_val (pe_callB call_isE (by rfl) T.isi (by decide +kernel) (pa_cons (pv 1) (pa_cons (pe_glob (v := .ref cT) (by rfl) gT rfl) pa_nil)))) (pe_tup (pa_cons pe_str (pa_cons (pe_callB (call_reprD (X := Z) hgd hu hmd) (by rfl) T.repr (by decide +kernel) (pa_cons (pe_efK K (pv 1)) pa_nil)) (pa_cons (pe_callB (call_reprD (X := Z) hgd hu hmd) (by rfl) T.repr (by decide +kernel) (pa_cons (pe_efK K (pv 1)) pa_nil)) pa_nil)))) (pe_tup (pa_cons pe_str pa_nil)))))))), ?_⟩
  · refine ⟨fun pins s' σ H' D I h' => ?_⟩
    obtain ⟨Ech, hW, h1, h2, h3⟩ := h'
    have tk2 : Takes (Z.tr pn xe) (fun cls d σ H => σ.length = 3 → W cls d σ H) := fun u s' ⟨a, B, sI, pins, σ, H, cls, d, e, I, nb, up, sky, na, os, ag, w⟩ => tk u s' ⟨a, B, sI, pins, σ, H, cls, d, e, I, nb, up, sky, na, os, ag, w I.len⟩
    refine PSs.run (pss_one (ps_expr (act (fun cls d σ H => σ.length = 3 → W cls d σ H) pn xe Ech ?_ ?_ tk2 hW))) pins s' σ H' D I ⟨h1, h2, h3⟩
  · refine ⟨HeardE X.K cB cT Q, ?_, rfl, hc, ?_⟩
    · rintro cls d σ' H' ⟨dd, fs, rfl, hd, hh⟩ hl
      have nd : ∀ {a : Addr}, H' a = none → dd ≠ a := fun {a} ha z => by rw [z, ha] at hd; cases hd
      obtain ⟨y0, y1, y2, rfl⟩ : ∃ y0 y1 y2, σ' = [y0, y1, y2] := by
        match σ', hl with
        | [y0, y1, y2], _ => exact ⟨_, _, _, rfl⟩
      rcases hh with ⟨rfl, v, p, lk, dv, ⟨sh, ln, dp⟩, qq⟩ | ⟨rfl, v, p, u, m, lk, dv, ⟨sh, ln, dp⟩, lk2, dv2, ⟨sh2, ln2, dp2⟩, qq⟩
      · refine ⟨cB, rfl, true, EB.eB, fun _ a ha => ?_, fun z => nomatch z⟩
        have ea : upd H' a (EXO cB a (some dd)) a = some (EXO cB a (some dd)) := upd_same
        have xd : XD (upd H' a (EXO cB a (some dd))) dd fs := .inr (by rw [upd_ne (nd ha)]; exact hd)
        have ed : ∀ d2, some dd = some d2 → ∃ fs, XD (upd H' a (EXO cB a (some dd))) d2 fs := fun _ z => by cases z; exact ⟨fs, xd⟩
        have dva := Dv.mono (same_new (o := EXO cB a (some dd)) ha) dv
        have sa : Same H' (upd H' a (EXO cB a (some dd))) := same_new ha
        generalize upd H' a (EXO cB a (some dd)) = Ha at ea xd ed dva sa ⊢
        refine ⟨.ref a, rfl, rfl, false, congrArg V.bl (decide_eq_false fun z => nomatch z), iteF ?_⟩
        refine ⟨.ref a, rfl, a, cB, some dd, .ref cB, .ref cB, true, rfl, .own _, EB.tB, ea, ed, EB.bb, true, rfl, iteT' ?_⟩
        refine ⟨.ref a, rfl, a, cB, some dd, .ty "ValueError", .type "ValueError", true, rfl, .ty _, EB.tB, ea, ed, EB.bv, true, rfl, iteT' ?_⟩
        refine ⟨.ref a, rfl, a, cB, some dd, .ref cT, .ref cT, false, rfl, .own _, EB.tB, ea, ed, EB.bt, false, rfl, iteT' ?_⟩
        refine ⟨.ref a, rfl, a, cB, dd, fs, v, rfl, EB.tB, EB.nP, ea, xd, lk, v, p, rfl, dva, sh, ln, dp, by show 2 ≤ sizeLine; decide, fun t ht => ?_⟩
        exact qq t _ (sa.trans (same_new ht)) upd_same
      · refine ⟨cT, rfl, true, EB.eT, fun _ a ha => ?_, fun z => nomatch z⟩
        have ea : upd H' a (EXO cT a (some dd)) a = some (EXO cT a (some dd)) := upd_same
        have xd : XD (upd H' a (EXO cT a (some dd))) dd fs := .inr (by rw [upd_ne (nd ha)]; exact hd)
        have ed : ∀ d2, some dd = some d2 → ∃ fs, XD (upd H' a (EXO cT a (some dd))) d2 fs := fun _ z => by cases z; exact ⟨fs, xd⟩
        have dva := Dv.mono (same_new (o := EXO cT a (some dd)) ha) dv
        have dvb := Dv.mono (same_new (o := EXO cT a (some dd)) ha) dv2
        have sa : Same H' (upd H' a (EXO cT a (some dd))) := same_new ha
        generalize upd H' a (EXO cT a (some dd)) = Ha at ea xd ed dva dvb sa ⊢
        refine ⟨.ref a, rfl, rfl, false, congrArg V.bl (decide_eq_false fun z => nomatch z), iteF ?_⟩
        refine ⟨.ref a, rfl, a, cT, some dd, .ref cB, .ref cB, false, rfl, .own _, EB.tT, ea, ed, EB.tb, false, rfl, iteF' (iteF' ?_)⟩
        refine ⟨.ref a, rfl, a, cT, some dd, .ref cT, .ref cT, true, rfl, .own _, EB.tT, ea, ed, EB.tt, true, rfl, iteT' ?_⟩
        refine ⟨.ref a, rfl, a, cT, dd, fs, v, rfl, EB.tT, EB.nW, ea, xd, lk, v, p, rfl, dva, sh, ln, dp, ?_⟩
        refine ⟨.ref a, rfl, a, cT, dd, fs, u, rfl, EB.tT, EB.nM, ea, xd, lk2, u, m, rfl, dvb, sh2, ln2, dp2, by show 3 ≤ sizeLine; decide, fun t ht => ?_⟩
        exact qq t _ (sa.trans (same_new ht)) upd_same
    · exact h _ fun v H' z => ⟨.non, rfl, rfl, true, rfl, iteT ⟨by show 1 ≤ sizeLine; decide, fun t ht => z t _ (same_new ht) upd_same⟩⟩
end K34
end

section
set_option Elab.async false
set_option linter.all false
set_option maxRecDepth 100000
set_option maxHeartbeats 4000000
/-! what is told, as data -/
namespace K34
open PySem L2 KZ
/-- what can be shown -/
structure Sm (L D : Nat) (d : PyData) : Prop where
  sh : d.showable = true
  ln : d.shown.length ≤ L
  dp : d.depth ≤ D
theorem Sm.mono {L D L' D' : Nat} {d : PyData} (h : Sm L D d) (a : L ≤ L') (b : D ≤ D') : Sm L' D' d := ⟨h.sh, Nat.le_trans h.ln a, Nat.le_trans h.dp b⟩
theorem Sm.tell {L D : Nat} {d : PyData} (h : Sm L D d) (a : L ≤ 10000) (b : D ≤ 40) : Tell d := ⟨h.sh, Nat.le_trans h.ln a, Nat.le_trans h.dp b⟩
theorem sm_all {L D : Nat} : ∀ {ds : List PyData}, (∀ d ∈ ds, Sm L D d) → PyData.showableAll ds = true ∧ ((PyData.shownAll ds).map (·.length)).sum ≤ L * ds.length ∧ (PyData.shownAll ds).length = ds.length ∧ PyData.depthAll ds ≤ D
  | [], _ => ⟨by simp only [PyData.showableAll], by simp [PyData.shownAll], by simp [PyData.shownAll], by simp [PyData.depthAll]⟩
  | d :: ds, h => by
    obtain ⟨h1, h2, h3, h4⟩ := sm_all (ds := ds) fun x hx => h x (List.mem_cons_of_mem _ hx)
    obtain ⟨a1, a2, a3⟩ := h d List.mem_cons_self
    refine ⟨by simp only [PyData.showableAll, a1, h1, Bool.and_self], ?_, by simp only [PyData.shownAll, List.length_cons, h3], ?_⟩
    · simp only [PyData.shownAll, List.map_cons, List.sum_cons, List.length_cons, Nat.mul_add, Nat.mul_one]
      omega
    · simp only [PyData.depthAll]
      omega
theorem Sm.tup {L D : Nat} {ds : List PyData} (h : ∀ d ∈ ds, Sm L D d) : Sm (L * ds.length + 2 * ds.length + 3) (D + 1) (.tuple ds) := by
  obtain ⟨h1, h2, h3, h4⟩ := sm_all h
  refine ⟨by simpa only [PyData.showable] using h1, ?_, by simp only [PyData.depth]; omega⟩
  have z := tupleText_len_le (PyData.shownAll ds)
  simp only [PyData.shown]
  rw [h3] at z
  omega
def SmI (i : Int) : Prop := i.natAbs < 10 ^ 13
theorem sm_int {i : Int} (h : SmI i) : Sm 14 0 (.int i) := by
  refine ⟨?_, ?_, Nat.le_refl 0⟩
  · simp only [PyData.showable, decide_eq_true_eq]
    by_cases z : i.natAbs = 0
    · rw [z]; decide
    · exact (Nat.log2_lt z).mpr (Nat.lt_of_lt_of_le h (by
        have : (10 : Nat) ^ 13 ≤ 2 ^ 1920 := Nat.le_trans (show (10 : Nat) ^ 13 ≤ 2 ^ 44 by decide) (Nat.pow_le_pow_right (by decide) (show 44 ≤ 1920 by decide))
        exact this))
  · have e := int_text_length_le10 (k := 13) (by decide) h
    show (Str.ofString (toString i)).length ≤ 14
    rw [ofString_length]
    exact e
theorem sm_non : Sm 14 0 .none := ⟨rfl, by decide +kernel, Nat.le_refl 0⟩
theorem sm_bool (b : Bool) : Sm 14 0 (.bool b) := by cases b <;> exact ⟨rfl, by decide +kernel, Nat.le_refl 0⟩
theorem sm_opt {o : Option Int} (h : ∀ i, o = some i → SmI i) : Sm 14 0 (oD o) := by
  cases o with
  | none => exact sm_non
  | some i => exact sm_int (h i rfl)
theorem sm_name {c : Str} (h : c = "a" ∨ c = "bob" ∨ c = "quitelon") : Sm 14 0 (.str c) := by
  rcases h with z | z | z <;> rw [z] <;> exact ⟨rfl, by decide +kernel, Nat.le_refl 0⟩
theorem sm_wd (g : Bool) : Sm 14 0 (.str (wd g)) := by cases g <;> exact ⟨rfl, by decide +kernel, Nat.le_refl 0⟩
def rowD (r : Row) : PyData := .tuple [.str r.c, .str (wd r.g), .int r.b, oD r.e, oD r.t]
def zoneD (z : Option Int × Int × Int) : PyData := .tuple [oD z.1, .int z.2.1, .int z.2.2]
def partsD (rs : List Row) : PyData := .tuple ((partsOf rs).map fun (i : Nat) => .int i)
def zonesD (rs : List Row) : PyData := .tuple ((zonesOf rs).map zoneD)
theorem RowOk.small {gs : List Bool} {s : Int} {g : Bool} {r : Row} (h : RowOk gs s g r) (hs : s ≤ 1000000000000) (hg : gs.length ≤ 14) : Sm 100 1 (rowD r) := by
  have h1 : SmI r.b := by
    unfold SmI
    have := h.b0
    have := h.b1
    omega
  have h2 : ∀ i, r.e = some i → SmI i := fun i e => by
    unfold SmI
    have := h.e0 i e
    have := h.b0
    have := h.b1
    omega
  have h3 : ∀ i, r.t = some i → SmI i := fun i e => by
    obtain ⟨_, _, u, rfl, hu⟩ := h.t0 i e
    have := (List.getElem?_eq_some_iff.mp hu).1
    unfold SmI
    omega
  refine (Sm.tup (L := 14) (D := 0) (ds := [.str r.c, .str (wd r.g), .int r.b, oD r.e, oD r.t]) fun d m => ?_).mono (show 83 ≤ 100 by decide) (by decide)
  rcases List.mem_cons.mp m with rfl | m
  · exact sm_name h.c
  rcases List.mem_cons.mp m with rfl | m
  · exact sm_wd _
  rcases List.mem_cons.mp m with rfl | m
  · exact sm_int h1
  rcases List.mem_cons.mp m with rfl | m
  · exact sm_opt h2
  rcases List.mem_cons.mp m with rfl | m
  · exact sm_opt h3
  · cases m
theorem parts_len (rs : List Row) : (partsOf rs).length ≤ rs.length := by
  unfold partsOf
  exact Nat.le_trans (List.length_filter_le _ _) (by simp)
theorem parts_small {rs : List Row} (h : rs.length ≤ 14) : Sm 300 1 (partsD rs) := by
  have hl := parts_len rs
  refine (Sm.tup (L := 14) (D := 0) fun d m => ?_).mono ?_ (by decide)
  · obtain ⟨i, mi, rfl⟩ := List.mem_map.mp m
    have : i < rs.length := by
      have := (List.mem_filter.mp mi).1
      exact List.mem_range.mp this
    exact sm_int (by unfold SmI; omega)
  · rw [List.length_map]
    omega
theorem acc_in {bs : List Int} : accB none bs = none ∧ bs = [] ∨ ∃ m, accB none bs = some m ∧ m ∈ bs := by
  cases bs with
  | nil => exact .inl ⟨rfl, rfl⟩
  | cons b bs =>
    refine .inr ?_
    obtain ⟨M, e, i, _⟩ := accB_spec bs b
    have e0 : accB none (b :: bs) = accB (some b) bs := by
      unfold accB
      rw [List.foldl_cons]
      have : max2 ((none : Option Int).getD b) b = b := by
        show (if b > b then b else b) = b
        split <;> rfl
      rw [this]
    exact ⟨M, by rw [e0, e], i.elim (fun z => z ▸ List.mem_cons_self) fun z => List.mem_cons_of_mem _ z⟩
theorem accE_in {bs : List Int} : accE none bs = none ∧ bs = [] ∨ ∃ m, accE none bs = some m ∧ m ∈ bs := by
  cases bs with
  | nil => exact .inl ⟨rfl, rfl⟩
  | cons b bs =>
    refine .inr ?_
    obtain ⟨M, e, i, _⟩ := accE_spec bs b
    have e0 : accE none (b :: bs) = accE (some b) bs := by
      unfold accE
      rw [List.foldl_cons]
      have : min2 ((none : Option Int).getD b) b = b := by
        show (if b < b then b else b) = b
        split <;> rfl
      rw [this]
    exact ⟨M, by rw [e0, e], i.elim (fun z => z ▸ List.mem_cons_self) fun z => List.mem_cons_of_mem _ z⟩
/-- rows of small numbers -/
structure RowS (r : Row) : Prop where
  b : SmI r.b
  e : ∀ i, r.e = some i → SmI i
theorem zoneM_small {rs : List Row} (hr : ∀ r ∈ rs, RowS r) (hl : rs.length ≤ 2000) {k : Option Int} (hk : ∀ i, k = some i → SmI i) : Sm 51 1 (zoneD (zoneM rs k)) := by
  have mem : ∀ r ∈ mineR rs k (partsOf rs), RowS r := fun r m => by
    obtain ⟨i, _, e, _⟩ := mem_mine.mp m
    exact hr r (List.mem_of_getElem? e)
  refine (Sm.tup (L := 14) (D := 0) fun d m => ?_).mono (show 51 ≤ 51 by decide) (by decide)
  unfold zoneM at m
  rcases List.mem_cons.mp m with rfl | m
  · exact sm_opt hk
  rcases List.mem_cons.mp m with rfl | m
  · refine sm_int ?_
    show SmI (if k = none then -1 else _)
    split
    · unfold SmI; decide
    · rcases accE_in (bs := (mineR rs k (partsOf rs)).filterMap (·.e)) with ⟨e, _⟩ | ⟨m, e, mm⟩
      · rw [e]; unfold SmI; decide
      · rw [e]
        obtain ⟨r, mr, er⟩ := List.mem_filterMap.mp mm
        exact (mem r mr).e m er
  rcases List.mem_cons.mp m with rfl | m
  · refine sm_int ?_
    show SmI ((accB none ((mineR rs k (partsOf rs)).map (·.b))).getD 0)
    rcases acc_in (bs := (mineR rs k (partsOf rs)).map (·.b)) with ⟨e, _⟩ | ⟨m, e, mm⟩
    · rw [e]; unfold SmI; decide
    · rw [e]
      obtain ⟨r, mr, er⟩ := List.mem_map.mp mm
      exact er ▸ (mem r mr).b
  · cases m
theorem zones_small {rs : List Row} (ok : ∀ r ∈ rs, r.Ok) (nb : firstBad rs = none) (hr : ∀ r ∈ rs, RowS r) (hl : rs.length ≤ 14) : Sm 1000 2 (zonesD rs) := by
  unfold zonesD
  rw [zones_eq ok nb]
  refine (Sm.tup (L := 51) (D := 1) fun d m => ?_).mono ?_ (by decide)
  · obtain ⟨z, mz, rfl⟩ := List.mem_map.mp m
    obtain ⟨k, mk, rfl⟩ := List.mem_map.mp mz
    refine zoneM_small hr (by omega) fun i e => ?_
    subst e
    have mk := (List.mem_filter.mp mk).1
    rcases List.mem_cons.mp mk with z | mk
    · cases z
    · obtain ⟨j, mj, ej⟩ := List.mem_map.mp mk
      have := List.mem_range.mp mj
      cases ej
      unfold SmI
      omega
  · rw [List.length_map, List.length_map]
    have : ((none :: (List.range rs.length).map fun (i : Nat) => some (i : Int)).filter (hasM rs)).length ≤ 15 := by
      refine Nat.le_trans (List.length_filter_le _ _) ?_
      rw [List.length_cons, List.length_map, List.length_range]
      omega
    omega
theorem RowOk.rowS {gs : List Bool} {s : Int} {g : Bool} {r : Row} (h : RowOk gs s g r) (hs : s ≤ 1000000000000) : RowS r := by
  refine ⟨?_, fun i e => ?_⟩
  · unfold SmI
    have := h.b0
    have := h.b1
    omega
  · unfold SmI
    have := h.e0 i e
    have := h.b0
    have := h.b1
    omega
/-! as they are compared -/
theorem shaped_of {d : PyData} (h1 : PyData.canLay0 d = true) (h2 : PyData.depth d ≤ 64) : SeqAt.shaped d = true := by
  unfold SeqAt.shaped
  rw [h1, decide_eq_true h2]
  rfl
theorem row_shaped {r : Row} (h : r.c = "a" ∨ r.c = "b" ∨ r.c = "bob" ∨ r.c = "quitelon") : SeqAt.shaped (rowD r) = true := by
  obtain ⟨c, g, b, e, t⟩ := r
  have h : c = "a" ∨ c = "b" ∨ c = "bob" ∨ c = "quitelon" := h
  have hc : PyData.canLay0 (.str c) = true := by rcases h with z | z | z | z <;> rw [z] <;> decide +kernel
  have hg : PyData.canLay0 (.str (wd g)) = true := by cases g <;> decide +kernel
  have ho : ∀ o : Option Int, PyData.canLay0 (oD o) = true := fun o => by cases o <;> rfl
  have hd : ∀ o : Option Int, PyData.depth (oD o) = 0 := fun o => by cases o <;> rfl
  refine shaped_of ?_ ?_
  · show (PyData.canLay0 (.str c) && (PyData.canLay0 (.str (wd g)) && (PyData.canLay0 (.int b) && (PyData.canLay0 (oD e) && (PyData.canLay0 (oD t) && true))))) = true
    rw [hc, hg, ho, ho]
    rfl
  · show max 0 (max 0 (max 0 (max (PyData.depth (oD e)) (max (PyData.depth (oD t)) 0)))) + 1 ≤ 64
    rw [hd, hd]
    decide
theorem eqv_o (o u : Option Int) : PyData.eqv (oD o) (oD u) = decide (o = u) := by
  cases o with
  | none => cases u <;> rfl
  | some i =>
    cases u with
    | none => rfl
    | some j =>
      show (i == j) = decide (some i = some j)
      by_cases h : i = j
      · rw [h, decide_eq_true rfl]; simp
      · rw [decide_eq_false (fun z => h (Option.some.inj z))]
        simp [h]
theorem eqv_row (r s : Row) : PyData.eqv (rowD r) (rowD s) = decide (r = s) := by
  obtain ⟨c, g, b, e, t⟩ := r
  obtain ⟨c', g', b', e', t'⟩ := s
  show ((c == c') && ((wd g == wd g') && ((b == b') && (PyData.eqv (oD e) (oD e') && (PyData.eqv (oD t) (oD t') && true))))) = _
  rw [eqv_o, eqv_o]
  have hg : (wd g == wd g') = decide (g = g') := by cases g <;> cases g' <;> decide +kernel
  rw [hg]
  by_cases h1 : c = c'
  · by_cases h2 : g = g'
    · by_cases h3 : b = b'
      · by_cases h4 : e = e'
        · by_cases h5 : t = t'
          · rw [h1, h2, h3, h4, h5]; simp
          · simp [h5]
        · simp [h4]
      · simp [h3]
    · simp [h2]
  · simp [h1]
theorem canZ : ∀ zs : List (Option Int × Int × Int), PyData.canLayAll0 (zs.map zoneD) = true
  | [] => rfl
  | z :: zs => by
    show (PyData.canLay0 (zoneD z) && PyData.canLayAll0 (zs.map zoneD)) = true
    rw [canZ zs, Bool.and_true]
    unfold zoneD
    cases z.1 <;> rfl
theorem depZ : ∀ zs : List (Option Int × Int × Int), PyData.depthAll (zs.map zoneD) ≤ 1
  | [] => Nat.zero_le _
  | z :: zs => by
    show max (PyData.depth (zoneD z)) (PyData.depthAll (zs.map zoneD)) ≤ 1
    have h1 := depZ zs
    have h2 : PyData.depth (zoneD z) ≤ 1 := by
      unfold zoneD
      cases z.1 <;> exact (show max 0 (max 0 (max 0 0)) + 1 ≤ 1 by decide)
    omega
theorem zones_shaped (rs : List Row) : SeqAt.shaped (zonesD rs) = true := by
  refine shaped_of (canZ _) ?_
  show PyData.depthAll ((zonesOf rs).map zoneD) + 1 ≤ 64
  have := depZ (zonesOf rs)
  omega
theorem ints_map (l : List Nat) : (l.map fun (i : Nat) => PyData.int (i : Int)) = (l.map fun (i : Nat) => (i : Int)).map PyData.int := by
  rw [List.map_map]
  rfl
theorem parts_shaped (rs : List Row) : SeqAt.shaped (partsD rs) = true := by
  unfold partsD
  rw [ints_map]
  refine shaped_of (can_ints _) ?_
  show PyData.depthAll _ + 1 ≤ 64
  rw [depth_ints]
  decide
theorem eqv_ints : ∀ l : List Int, PyData.eqvAll (l.map .int) (l.map .int) = true
  | [] => rfl
  | i :: l => by
    show ((i == i) && PyData.eqvAll (l.map .int) (l.map .int)) = true
    rw [eqv_ints l]
    simp
theorem eqv_parts (rs : List Row) : PyData.eqv (partsD rs) (partsD rs) = true := by
  unfold partsD
  rw [ints_map]
  exact eqv_ints _
theorem eqv_zs : ∀ l : List (Option Int × Int × Int), PyData.eqvAll (l.map zoneD) (l.map zoneD) = true
  | [] => rfl
  | z :: l => by
    show (PyData.eqv (zoneD z) (zoneD z) && PyData.eqvAll (l.map zoneD) (l.map zoneD)) = true
    rw [eqv_zs l, Bool.and_true]
    unfold zoneD
    show (PyData.eqv (oD z.1) (oD z.1) && ((z.2.1 == z.2.1) && ((z.2.2 == z.2.2) && true))) = true
    rw [eqv_o]
    simp
theorem eqv_zones (rs : List Row) : PyData.eqv (zonesD rs) (zonesD rs) = true := eqv_zs _
/-! as they stand -/
section
variable {K : PySem.W.Frag}
theorem oD_dp {H : Hp} (o : Option Int) : Dp K H (oV o) (oD o) := by
  cases o with
  | none => exact .non
  | some i => exact .int i
theorem row_dp {H : Hp} {q : Addr} {r : Row} (h : RowAt H q r) : Dp K H (.ref q) (rowD r) := .tup (SqT.of h) (.cons (.str _) (.cons (.str _) (.cons (.int _) (.cons (oD_dp _) (.cons (oD_dp _) .nil)))))
theorem parts_dp {H : Hp} {p : Addr} {rs : List Row} (h : H p = some (.tup (nats (partsOf rs)))) : Dp K H (.ref p) (partsD rs) := by
  unfold partsD
  rw [ints_map]
  refine .tup (SqT.of (xs := ((partsOf rs).map fun (i : Nat) => (i : Int)).map V.int) ?_) (dp_ints _)
  rw [List.map_map]
  exact h
theorem dpall_of {H : Hp} {zs : List (Option Int × Int × Int)} : ∀ {qs : List Addr}, qs.length = zs.length → (∀ (i : Nat) q z, qs[i]? = some q → zs[i]? = some z → H q = some (.tup [oV z.1, .int z.2.1, .int z.2.2])) → DpAll K H (qs.map V.ref) (zs.map zoneD) := by
  induction zs with
  | nil => intro qs hl _; cases qs with
    | nil => exact .nil
    | cons q qs => cases hl
  | cons z zs ih =>
    intro qs hl h
    cases qs with
    | nil => cases hl
    | cons q qs =>
      refine .cons (.tup (SqT.of (h 0 q z rfl rfl)) (.cons (oD_dp _) (.cons (.int _) (.cons (.int _) .nil)))) (ih (by simpa using hl) fun i q' z' e1 e2 => h (i + 1) q' z' e1 e2)
theorem zones_dp {H : Hp} {p : Addr} {rs : List Row} (h : ZonesAt H p (zonesOf rs)) : Dp K H (.ref p) (zonesD rs) := by
  obtain ⟨qs, h1, h2, h3⟩ := h
  exact .tup (SqT.of h1) (dpall_of h2 h3)
mutual
theorem dv_of {H : Hp} : ∀ (d : PyData) (v : V), Dp K H v d → Dv K H v d
  | .none, _, h => by cases h; exact .non
  | .bool b, _, h => by cases h; exact .bl b
  | .int i, _, h => by cases h; exact .int i
  | .str x, _, h => by cases h; exact .str x
  | .list ds, _, h => by
    cases h with
    | lst a b => exact .lst a (dvs_of ds _ b)
  | .tuple ds, _, h => by
    cases h with
    | tup a b => exact .tup a (dvs_of ds _ b)
  | .dict _, _, h => by cases h
theorem dvs_of {H : Hp} : ∀ (ds : List PyData) (vs : List V), DpAll K H vs ds → Dvs K H vs ds
  | [], _, h => by cases h; exact .nil
  | d :: ds, _, h => by
    cases h with
    | cons a b => exact .cons (dv_of d _ a) (dvs_of ds _ b)
end
end
end K34
end

section
set_option Elab.async false
set_option linter.all false
set_option maxRecDepth 100000
set_option maxHeartbeats 4000000
/-! histories that are right -/
namespace K34
open PySem L2 KZ
abbrev sHR : Stmt := top 30
/-- a def that is called by its name -/
structure Cal (P : Program) (w : World) (K : PySem.W.Frag) (mg : Str → Option Value) (base : Heap) (x : Str) (n : Nat) (ps : List Str) (sp : Sp) : Prop where
  ex : ∃ f fd, mg x = some (.ref f) ∧ FnOk P w K mg base CX0 n f fd ps sp ∧ PySem.W.keepIn K (.ref f) = true ∧ Binds K fd ps []
structure CalK (P : Program) (w : World) (K : PySem.W.Frag) (mg : Str → Option Value) (base : Heap) (x : Str) (n : Nat) (ps : List Str) (sp : Sp) : Prop where
  ex : ∃ f fd, mg x = some (.ref f) ∧ FnOk P w K mg base CX0 n f fd ps sp ∧ PySem.W.keepIn K (.ref f) = true ∧ Binds K fd ps [] ∧ KBinds K fd ps ps (fun us ws => us ++ ws.take 1) fun vs zs => vs ++ zs.take 1
def spPartsX (K : PySem.W.Frag) (C : Addr) : Sp := fun vs H Q _ => ∃ a rs, vs = [.ref a] ∧ Hist K C H a rs ∧ rs.length ≤ 1000 ∧ (∀ r ∈ rs, r.Ok) ∧ firstBad rs = none ∧ ∀ p H', Same H H' → H' p = some (.tup (nats (partsOf rs))) → Q (.ref p) H'
def spZonesX (K : PySem.W.Frag) (C : Addr) : Sp := fun vs H Q _ => ∃ a rs, vs = [.ref a] ∧ Hist K C H a rs ∧ rs.length ≤ 1000 ∧ (∀ r ∈ rs, r.Ok) ∧ firstBad rs = none ∧ ∀ p H', Same H H' → ZonesAt H' p (zonesOf rs) → Q (.ref p) H'
def spAheadX (C : Addr) : Sp := fun vs H Q _ => ∃ a r b s, vs = [.ref a, .ref b] ∧ AskAt C H a r ∧ AskAt C H b s ∧ Q (.bl (ahead r s)) H
/-- the class's own methods, as they are called -/
structure AskF (P : Program) (w : World) (K : PySem.W.Frag) (mg : Str → Option Value) (base : Heap) (C : Addr) : Prop where
  ah : ∃ f fd, Meth K C "is_ahead" f ∧ FnOk P w K mg base CX0 7 f fd ["self", "other"] (spAheadX C) ∧ Binds K fd ["self", "other"] [] ∧ KBinds K fd ["self", "other"] ["other"] (fun us ws => us ++ ws.take 1) fun vs zs => vs ++ zs.take 1
  eq : ∃ f fd, FnOk P w K mg base CX0 1 f fd ["self", "other"] (spEqA K C) ∧ OwnEqF K C f fd ["self", "other"]
  nf : PySem.W.notFirst K C (.ref C) = true
/-- what the law's parts call -/
structure LF (P : Program) (w : World) (K : PySem.W.Frag) (mg : Str → Option Value) (base : Heap) (C : Addr) : Prop where
  rows : Cal P w K mg base "_law_rows" 3 ["well", "many", "span"] spRows
  draw : Cal P w K mg base "_law_draw" 1 ["well", "many"] spDraw
  one : Cal P w K mg base "_law_one" 2 ["well", "some"] spOne
  made : Cal P w K mg base "_law_made" 10 ["row"] (spMade C)
  lparts : Cal P w K mg base "_law_parts" 1 ["rows"] spLParts
  lzones : Cal P w K mg base "_law_zones" 3 ["rows"] spLZones
  parts : CalK P w K mg base "parts" 8 ["asks"] (spPartsX K C)
  zones : CalK P w K mg base "zones" 8 ["asks"] (spZonesX K C)
def spHR : Sp := fun vs H Q _ => ∃ (p c : Addr) (cells : List Int) (n : Nat), vs = [.ref p] ∧ PenAt H p c cells n ∧ n ≤ 4000 ∧ ∀ H', PenAt H' p c cells (n + 110) → Kept p H H' → Q (.bl true) H'
theorem AskAt.ne {C : Addr} {H : Hp} {a D : Addr} {r : Row} {xs : List V} (h : AskAt C H a r) (hd : H D = some (.lst xs)) : a ≠ D := fun e => by
  obtain ⟨dx, z⟩ := h
  rw [e, hd] at z
  cases z
section
variable {P : Program} {w : World} {K : PySem.W.Frag} {mg : Str → Option Value} {base : Heap} {C : Addr}
theorem made_lc {R D : Addr} {rs : List Row} {H3 : Hp} {σ : L2.St} {i0 : Nat} {Qd : Hp → Prop} (hR : RowsAt H3 R rs) (ok : ∀ r ∈ rs, r.Ok) (hl : rs.length ≤ 1000) (hs : ∀ r ∈ rs, r.c.length ≤ 1000) (hD : H3 D = none) (h1 : ∀ x, ((wipe σ [i0]).set i0 (some x))[i0]? = some (some x)) (h2 : ∀ x, wipe ((wipe σ [i0]).set i0 (some x)) [i0] = wipe σ [i0])
    (done : ∀ ms H', AsksAt C H' ms rs → H' D = some (.lst (ms.map V.ref)) → Same H3 H' → Qd H') :
    ∃ W : Nat → Nat → Hp → Prop, (∃ m, W 0 m (upd H3 D (.lst []))) ∧ ∀ i m H, W i m H →
      ((Itl K R).stop i H ∧ Qd H) ∨ ((Itl K R).go i H ∧ ∃ Nx : Hp → Prop, (∀ H', Nx H' → ∃ m', m' < m ∧ W (i + 1) m' H') ∧ ∀ x H', (Itl K R).yld i H x H' → gName i0 x (wipe σ [i0]) H' fun σ2 H2 => wipe σ2 [i0] = wipe σ [i0] ∧ tYes σ2 H2 fun b H3 =>
        if b = true then tCall (spMade C) [] E0 (tCons (tVar i0) tNil) σ2 H3 fun y H4 => ∃ acc, H4 D = some (.lst acc) ∧ acc.length < sizeLine ∧ Nx (upd H4 D (.lst (acc ++ [y]))) else Nx H3) := by
  obtain ⟨ps, ha, lp, hp⟩ := id hR
  refine lc_it (walk_list (K := K) (a := R) (xs := ps.map V.ref)) (fun i H' => ∃ ms : List Addr, H' D = some (.lst (ms.map V.ref)) ∧ AsksAt C H' ms (rs.take i) ∧ Same H3 H') ⟨[], upd_same, ⟨rfl, fun i p r e => (by cases e)⟩, same_new hD⟩ (fun i H' _ ⟨_, _, _, s⟩ => SqL.of (s _ _ ha)) ?_ ?_
  · rintro i x H4 H5 hi ⟨ms, hd, ⟨ml, am⟩, s4⟩ ⟨rfl, hx⟩
    have hi2 : i < ps.length := by rw [List.length_map] at hi; exact hi
    have hi3 : i < rs.length := by rw [← lp]; exact hi2
    have ex : x = .ref ps[i] := by
      rw [List.getElem?_map, List.getElem?_eq_getElem hi2] at hx
      exact (Option.some.inj hx).symm
    subst ex
    have er : rs[i]? = some rs[i] := List.getElem?_eq_getElem hi3
    have row := s4 _ _ (hp i ps[i] rs[i] (List.getElem?_eq_getElem hi2) er)
    have tk : rs.take (i + 1) = rs.take i ++ [rs[i]] := by
      rw [List.take_add_one, er]
      rfl
    rw [tk]
    have mr : rs[i] ∈ rs := List.getElem_mem hi3
    have okr := ok _ mr
    have hsr := hs _ mr
    have mli : ms.length = i := by rw [ml, List.length_take]; omega
    generalize rs[i] = r at row okr hsr ⊢
    refine ⟨h2 _, yes_go ⟨_, h1 _, ps[i], r, rfl, row, okr, hsr, fun x H6 hx s6 ask => ⟨_, s6 _ _ hd, ?_, ms ++ [x], by rw [upd_same, List.map_append]; rfl, ⟨?_, ?_⟩, fun b o e => by rw [upd_ne (ne_of_none e hD)]; exact s6 _ _ (s4 _ _ e)⟩⟩⟩
    · rw [List.length_map]
      exact Nat.lt_of_le_of_lt (show _ ≤ 1000 by omega) (by decide)
    · rw [List.length_append, List.length_append, ml]
      rfl
    · intro j q r' e1 e2
      have hd6 := s6 _ _ hd
      have keep : ∀ {q r'}, AskAt C _ q r' → AskAt C (upd _ D (.lst (ms.map V.ref ++ [V.ref x]))) q r' := fun {q r'} z => by
        obtain ⟨dx, h⟩ := id z
        exact ⟨dx, by rw [upd_ne (z.ne hd6)]; exact h⟩
      by_cases hj : j < ms.length
      · rw [List.getElem?_append_left hj] at e1
        rw [List.getElem?_append_left (by omega)] at e2
        exact keep ((am j q r' e1 e2).mono s6)
      · rw [List.getElem?_append_right (by omega)] at e1 e2
        have hj0 : j - ms.length = 0 := by
          cases hz : j - ms.length with
          | zero => rfl
          | succ m => rw [hz] at e1; cases e1
        rw [hj0] at e1
        rw [show j - (rs.take i).length = 0 by omega] at e2
        cases e1
        cases e2
        exact keep ask
  · rintro H4 ⟨ms, hd, am, s4⟩
    rw [List.length_map, lp, List.take_of_length_le (Nat.le_refl _)] at am
    exact done ms H4 am hd s4
theorem ne_self {x : V} : V.bl (!decide (x = x)) = V.bl false := by rw [decide_eq_true rfl]; rfl
theorem ask_mono {H H' : Hp} {ms : List Addr} {rs : List Row} (s : Same H H') (h : AsksAt C H ms rs) : AsksAt C H' ms rs := ⟨h.1, fun i p r e1 e2 => (h.2 i p r e1 e2).mono s⟩
theorem rows_dp {H : Hp} : ∀ {ps : List Addr} {rs : List Row}, ps.length = rs.length → (∀ (i : Nat) p r, ps[i]? = some p → rs[i]? = some r → RowAt H p r) → DpAll K H (ps.map V.ref) (rs.map rowD)
  | [], [], _, _ => .nil
  | p :: ps, r :: rs, hl, h => .cons (row_dp (h 0 p r rfl rfl)) (rows_dp (by simpa using hl) fun i p' r' e1 e2 => h (i + 1) p' r' e1 e2)
  | [], _ :: _, hl, _ => by cases hl
  | _ :: _, [], hl, _ => by cases hl
theorem rows_shaped : ∀ {rs : List Row}, (∀ r ∈ rs, r.c = "a" ∨ r.c = "b" ∨ r.c = "bob" ∨ r.c = "quitelon") → PyData.canLayAll0 (rs.map rowD) = true ∧ PyData.depthAll (rs.map rowD) ≤ 60
  | [], _ => ⟨rfl, Nat.zero_le _⟩
  | r :: rs, h => by
    obtain ⟨h1, h2⟩ := rows_shaped (rs := rs) fun x m => h x (List.mem_cons_of_mem _ m)
    have h3 := row_shaped (h r List.mem_cons_self)
    unfold SeqAt.shaped at h3
    rw [Bool.and_eq_true] at h3
    obtain ⟨h3, _⟩ := h3
    refine ⟨?_, ?_⟩
    · show (PyData.canLay0 (rowD r) && PyData.canLayAll0 (rs.map rowD)) = true
      rw [h1, h3]
      rfl
    · have h4 : PyData.depth (rowD r) ≤ 1 := by
        obtain ⟨c, g, b, e, t⟩ := r
        have hd : ∀ o : Option Int, PyData.depth (oD o) = 0 := fun o => by cases o <;> rfl
        show max 0 (max 0 (max 0 (max (PyData.depth (oD e)) (max (PyData.depth (oD t)) 0)))) + 1 ≤ 1
        rw [hd, hd]
        decide
      show max (PyData.depth (rowD r)) (PyData.depthAll (rs.map rowD)) ≤ 60
      omega
theorem eqv_nilD (l : List PyData) : PyData.eqv (.list l) (.list []) = l.isEmpty := by
  cases l <;> rfl
theorem next_go {D : Ends} {σ : L2.St} {H : Hp} (h : D.nx σ H) : tNext D σ H := h
theorem if_no {c : TT} {t rest : TS} {D : Ends} {σ : L2.St} {H : Hp} (good : Hp → Prop) (hc : ∀ Q : Bool → Hp → Prop, (∀ H', good H' → Q false H') → c σ H Q) (go : ∀ H', good H' → rest D σ H') : tSeq (tIfS c t tNext) rest D σ H :=
  hc _ fun H' g => iteF (go H' g)
theorem if_noL {c : TT} {t : TS} {D : Ends} {σ : L2.St} {H : Hp} (good : Hp → Prop) (hc : ∀ Q : Bool → Hp → Prop, (∀ H', good H' → Q false H') → c σ H Q) (go : ∀ H', good H' → D.nx σ H') : tIfS c t tNext D σ H :=
  hc _ fun H' g => iteF (go H' g)
theorem eqA_go {H : Hp} {Q : VK} {a b : Addr} {r s : Row} (A : AskC K mg C) (nf : PySem.W.notFirst K C (.ref C) = true) (ha : AskAt C H a r) (hb : AskAt C H b s) {neg : Bool} (q : Q (.bl (neg != decide (r = s))) H) : rOwn K C (spEqA K C) E0 neg (.ref a) (.ref b) H Q := by
  obtain ⟨dx, hx⟩ := id ha
  obtain ⟨dy, hy⟩ := id hb
  exact ⟨a, dx, flds r, .ref C, rfl, hx, A.ty H b dy _ hy, nf, a, r, .ref b, rfl, ha, .inl ⟨b, s, rfl, hb, decide (r = s), rfl, q⟩⟩
theorem scHR : FnScope ["well", "rows", "made", "same", "at", "row", "one", "k", "other"] ["well"] (defScope sHR) := ⟨rfl, rfl, rfl, by decide +kernel, rfl, by decide +kernel, by decide +kernel⟩
theorem ok_hr (hmd : ModsD base) {f : Addr} {fd : FuncData} (F : Fun K "_law_history_right" "_law_history_right" sHR f fd) (T : B1 mg) (A : AskC K mg C) (AF : AskF P w K mg base C) (L : LF P w K mg base C) : FnG P w K mg base CX0 11 f fd ["well"] spHR := by
  obtain ⟨fR, dR, gR, GR, kR, bR⟩ := L.rows.ex
  obtain ⟨fD, dD, gD, GD, kD, bD⟩ := L.draw.ex
  obtain ⟨fO, dO, gO, GO, kO, bO⟩ := L.one.ex
  obtain ⟨fM, dM, gM, GM, kM, bM⟩ := L.made.ex
  obtain ⟨fLp, dLp, gLp, GLp, kLp, bLp⟩ := L.lparts.ex
  obtain ⟨fLz, dLz, gLz, GLz, kLz, bLz⟩ := L.lzones.ex
  obtain ⟨fP, dP, gP, GP, kP, bP, kbP⟩ := L.parts.ex
  obtain ⟨fZ, dZ, gZ, GZ, kZ, bZ, kbZ⟩ := L.zones.ex
  obtain ⟨fA, dA, MA, GA, bA, kbA⟩ := AF.ah
  obtain ⟨fE, dE, GE, O⟩ := AF.eq
  refine okG F scHR (fun vs H Q E h => ?_) (fun cdv A' outer s0 H vs Q E hgd hr h => ?_)
  · obtain ⟨p, c, cells, n, rfl, _⟩ := h
    rfl
  · obtain ⟨p, c, cells, n, rfl, pen, hn, q⟩ := h
    have hr10 : Room 10 _ := hr
    have hr8 : Room 8 _ := hr.mono (by decide)
    have hr7 : Room 7 _ := hr.mono (by decide)
    have hr3 : Room 3 _ := hr.mono (by decide)
    have hr2 : Room 2 _ := hr.mono (by decide)
    have hr1 : Room 1 _ := hr.mono (by decide)
    refine ⟨_, (pss_cons (ps_set (i := 1) scHR.nd rfl (Or.inl rfl) (pe_call GR hr3 (by rfl) gR kR bR .nil pass0 (pa_cons (pv 0) (pa_cons (pe_call GD hr1 (by rfl) gD kD bD .nil pass0 (pa_cons (pv 0) (pa_cons pe_int pa_nil))) (pa_cons (pe_call GO hr2 (by rfl) gO kO bO .nil pass0 (pa_cons (pv 0) (pa_cons (pe_lst (pa_cons pe_int (pa_cons pe_int (pa_cons pe_int (pa_cons pe_int (pa_cons (pe_op op_pow pe_int pe_int) pa_nil)))))) pa_nil))) pa_nil)))))
(pss_cons (ps_setLc (i := 2) (own := [("row", 5)]) (g := gName 5) (tt := tYes) (by rfl) scHR.nd rfl rfl (sw_true rfl rfl rfl (by decide +kernel)) (pi_list (pv 1)) (blkOk_by (own := [("row", 5)]) (N := ["well", "rows", "made", "same", "at", "row", "one", "k", "other"]) (sc := defScope sHR) (by decide +kernel)) (fun _ _ _ _ _ => pg_name (i := 5) scHR.nd rfl (Or.inl rfl)) (fun _ _ _ _ _ => pts_nil) (fun _ _ _ _ _ => pe_call GM hr10 (by rfl) gM kM bM .nil pass0 (pa_cons (pv 5) pa_nil)))
(pss_cons (ps_set (i := 3) scHR.nd rfl (Or.inl rfl) (pe_callTy call_tuple_of (by rfl) T.tuple (by decide +kernel) (pa_cons (pe_lc (own := [("row", 5)]) (g := gName 5) (tt := tYes) (by rfl) scHR.nd (pi_list (pv 1)) (blkOk_by (own := [("row", 5)]) (N := ["well", "rows", "made", "same", "at", "row", "one", "k", "other"]) (sc := defScope sHR) (by decide +kernel)) (fun _ _ _ _ _ => pg_name (i := 5) scHR.nd rfl (Or.inl rfl)) (fun _ _ _ _ _ => pts_nil) (fun _ _ _ _ _ => pe_call GM hr10 (by rfl) gM kM bM .nil pass0 (pa_cons (pv 5) pa_nil))) pa_nil)))
(pss_cons (ps_if (PW.pt (pw_or (pt_cmpR op_ne (pe_callB (call_reprD hgd hr.units hmd) (by rfl) T.repr (by decide +kernel) (pa_cons (pe_call GP hr8 (by rfl) gP kP bP .nil pass0 (pa_cons (pv 2) pa_nil)) pa_nil)) (pe_callB (call_reprD hgd hr.units hmd) (by rfl) T.repr (by decide +kernel) (pa_cons (pe_call GLp hr1 (by rfl) gLp kLp bLp .nil pass0 (pa_cons (pv 1) pa_nil)) pa_nil)) (nomark _)) (pw_or1 (pt_cmpR op_ne (pe_callB (call_reprD hgd hr.units hmd) (by rfl) T.repr (by decide +kernel) (pa_cons (pe_call GZ hr8 (by rfl) gZ kZ bZ .nil pass0 (pa_cons (pv 2) pa_nil)) pa_nil)) (pe_callB (call_reprD hgd hr.units hmd) (by rfl) T.repr (by decide +kernel) (pa_cons (pe_call GLz hr3 (by rfl) gLz kLz bLz .nil pass0 (pa_cons (pv 1) pa_nil)) pa_nil)) (nomark _)))))
(pss_one (ps_ret pe_bl))
pss_nil)
(pss_cons (ps_if (PW.pt (pw_or (pt_cmpR (op_neD hr.units) (pe_call GP hr8 (by rfl) gP kP bP .nil pass0 (pa_cons (pv 3) pa_nil)) (pe_callK0 GP hr8 (by rfl) gP kP kbP pass0 (pk_cons (pv 2) pk_nil)) (nomark _)) (pw_or (pt_cmpR (op_neD hr.units) (pe_call GZ hr8 (by rfl) gZ kZ bZ .nil pass0 (pa_cons (pv 3) pa_nil)) (pe_callK0 GZ hr8 (by rfl) gZ kZ kbZ pass0 (pk_cons (pv 2) pk_nil)) (nomark _)) (pw_or1 (pt_cmpR op_ne (pe_callB call_len (by rfl) T.len PySem.boot_len (pa_cons (pv 2) pa_nil)) (pe_callB call_len (by rfl) T.len PySem.boot_len (pa_cons (pv 1) pa_nil)) (nomark _))))))
(pss_one (ps_ret pe_bl))
pss_nil)
(pss_cons (ps_if (PW.pt (pw_and (pt_cmpR (op_neD hr.units) (pv 1) (pe_lst pa_nil) (nomark _)) (pw_and1 (pt_cmpR op_ne (pe_methK0 (pe_ix (ix_seqK K) (pv 2) pe_int (fun _ _ => rfl)) A.cl MA GA hr7 kbA pass0 (pk_cons (pe_ix (ix_seqK K) (pv 2) (pe_un un_neg pe_int) (fun _ _ => rfl)) pk_nil)) (pe_meth (pe_ix (ix_seqK K) (pv 2) pe_int (fun _ _ => rfl)) A.cl MA GA hr7 bA .nil pass0 (pa_cons (pe_ix (ix_seqK K) (pv 2) (pe_un un_neg pe_int) (fun _ _ => rfl)) pa_nil)) (nomark _)))))
(pss_one (ps_ret pe_bl))
pss_nil)
(pss_cons (ps_for PassesOwn.never rfl (pi_enum (by rfl) T.enum (pa_cons (pv 1) pa_nil)) (pg_tup rfl (pgs_cons (pg_name (i := 4) scHR.nd rfl (Or.inl rfl)) (pgs_cons (pg_name (i := 5) scHR.nd rfl (Or.inl rfl)) pgs_nil)))
(pss_cons (ps_set (i := 6) scHR.nd rfl (Or.inl rfl) (pe_ix (ix_seqK K) (pv 2) (pv 4) (fun _ _ => rfl)))
(pss_cons (ps_if (PW.pt (pw_or (pt_cmpR op_ne (pe_callB (call_reprD hgd hr.units hmd) (by rfl) T.repr (by decide +kernel) (pa_cons (pe_tup (pa_cons (pe_fld (pv 6) rfl) (pa_cons (pe_fld (pv 6) rfl) (pa_cons (pe_fld (pv 6) rfl) (pa_cons (pe_fld (pv 6) rfl) (pa_cons (pe_fld (pv 6) rfl) pa_nil)))))) pa_nil)) (pe_callB (call_reprD hgd hr.units hmd) (by rfl) T.repr (by decide +kernel) (pa_cons (pv 5) pa_nil)) (nomark _)) (pw_or1 (pt_cmpR (op_neO GE O pass0 hr2) (pv 6) (pe_ix (ix_seqK K) (pv 3) (pv 4) (fun _ _ => rfl)) (nomark _)))))
(pss_one (ps_ret pe_bl))
pss_nil)
(pss_one (ps_for PassesOwn.never rfl (pi_enum (by rfl) T.enum (pa_cons (pv 1) pa_nil)) (pg_tup rfl (pgs_cons (pg_name (i := 7) scHR.nd rfl (Or.inl rfl)) (pgs_cons (pg_name (i := 8) scHR.nd rfl (Or.inl rfl)) pgs_nil)))
(pss_cons (ps_if (pt_cmpR op_ne (pe_callB (call_reprD hgd hr.units hmd) (by rfl) T.repr (by decide +kernel) (pa_cons (pe_meth (pv 6) A.cl MA GA hr7 bA .nil pass0 (pa_cons (pe_ix (ix_seqK K) (pv 2) (pv 7) (fun _ _ => rfl)) pa_nil)) pa_nil)) (pe_callB (call_reprD hgd hr.units hmd) (by rfl) T.repr (by decide +kernel) (pa_cons (pe_and (pe_cmpR op_notN (pe_ix (ix_seqK K) (pv 5) pe_int (fun _ _ => rfl)) pe_non (nomark _)) (pe_one (pe_cmpR op_lt (pe_ix (ix_seqK K) (pv 5) pe_int (fun _ _ => rfl)) (pe_ix (ix_seqK K) (pv 8) pe_int (fun _ _ => rfl)) (nomark _)))) pa_nil)) (nomark _))
(pss_one (ps_ret pe_bl))
pss_nil)
(pss_one (ps_if (PW.pt (pw_or (pt_cmpR op_ne (pe_cmpR (op_eqO GE O pass0 hr1) (pv 6) (pe_ix (ix_seqK K) (pv 2) (pv 7) (fun _ _ => rfl)) (nomark _)) (pe_cmpR (op_eqD hr.units) (pv 5) (pv 8) (nomark _)) (nomark _)) (pw_or1 (pt_cmpR op_ne (pe_cmpR (op_neO GE O pass0 hr2) (pv 6) (pe_ix (ix_seqK K) (pv 2) (pv 7) (fun _ _ => rfl)) (nomark _)) (pe_cmpR (op_neD hr.units) (pv 5) (pv 8) (nomark _)) (nomark _)))))
(pss_one (ps_ret pe_bl))
pss_nil))))))))
(pss_one (ps_ret pe_bl))))))))), ?_⟩
    refine ⟨.ref p, rfl, .ref p, rfl, p, c, cells, n, 15, rfl, pen, by omega, by decide, by decide, fun m H1 m0 m1 pn1 kp1 => ?_⟩
    refine ⟨.ref p, rfl, 10, 12, rfl, rfl, ⟨by decide, by decide, by decide⟩, by show 5 ≤ sizeLine; decide, fun L hL => ?_⟩
    refine ⟨p, c, L, cells, n + 1, _, rfl, pn1.mono (same_new hL) (Nat.le_refl _), by omega, upd_same, (pn1.nn hL).1, by decide, by decide, fun j x H2 ex pn2 kp2 => ?_⟩
    obtain ⟨s, rfl, hs0, hs1⟩ : ∃ s : Int, x = .int s ∧ 0 < s ∧ s ≤ 1000000000000 := by
      rcases j with _ | _ | _ | _ | _ | j
      · exact ⟨_, (Option.some.inj ex).symm, by decide, by decide⟩
      · exact ⟨_, (Option.some.inj ex).symm, by decide, by decide⟩
      · exact ⟨_, (Option.some.inj ex).symm, by decide, by decide⟩
      · exact ⟨_, (Option.some.inj ex).symm, by decide, by decide⟩
      · exact ⟨_, (Option.some.inj ex).symm, by decide, by decide⟩
      · cases ex
    have kp12 : Kept p H H2 := kp1.trans ((Kept.of (same_new hL)).trans kp2)
    obtain ⟨k, rfl⟩ : ∃ k : Nat, m = k := ⟨_, (Int.toNat_of_nonneg m0).symm⟩
    refine ⟨p, c, cells, n + 2, k, s, rfl, pn2, by omega, by omega, hs0, hs1, fun R gs rs H3 hRn gl rl ro rows pn3 kp3 => ?_⟩
    have ok := ro.ok
    have nb := ro.nobad (by omega)
    have hl14 : rs.length ≤ 14 := by omega
    have hl : rs.length ≤ 1000 := by omega
    have hshort : ∀ r ∈ rs, r.c.length ≤ 1000 := fun r m => by
      obtain ⟨g, z⟩ := ro.row m
      have := z.short
      omega
    have hname : ∀ r ∈ rs, r.c = "a" ∨ r.c = "b" ∨ r.c = "bob" ∨ r.c = "quitelon" := fun r m => by
      obtain ⟨g, z⟩ := ro.row m
      rcases z.c with z | z | z
      · exact .inl z
      · exact .inr (.inr (.inl z))
      · exact .inr (.inr (.inr z))
    have rsm : ∀ r ∈ rs, Tell (rowD r) := fun r m => by
      obtain ⟨g, z⟩ := ro.row m
      exact (z.small hs1 (by omega)).tell (by decide) (by decide)
    have rsS : ∀ r ∈ rs, RowS r := fun r m => by
      obtain ⟨g, z⟩ := ro.row m
      exact z.rowS hs1
    obtain ⟨psh, pln, pdp⟩ := (parts_small hl14).tell (by decide) (by decide)
    obtain ⟨zsh, zln, zdp⟩ := (zones_small ok nb rsS hl14).tell (by decide) (by decide)
    obtain ⟨ps, ha, lp, hp⟩ := id rows
    refine ⟨.ref R, rfl, R, rfl, ⟨_, SqL.of ha⟩, fun M hM0 => made_lc rows ok hl hshort hM0 (fun _ => rfl) (fun _ => rfl) fun ms H4 am hM s4 => ?_⟩
    refine ⟨.ref R, rfl, R, rfl, ⟨_, SqL.of (s4 _ _ ha)⟩, fun D2 hD2 => made_lc (rows.mono s4) ok hl hshort hD2 (fun _ => rfl) (fun _ => rfl) fun ss H5 as hss s5 => ⟨D2, _, rfl, .inl ⟨SqL.of hss, fun S hS0 => ?_⟩⟩⟩
    have s45 : Same H3 (upd H5 S (.tup (ss.map V.ref))) := s4.trans (s5.trans (same_new hS0))
    have hS : upd H5 S (.tup (ss.map V.ref)) S = some (.tup (ss.map V.ref)) := upd_same
    have hMb := (s5.trans (same_new (o := .tup (ss.map V.ref)) hS0)) _ _ hM
    have amb := ask_mono (s5.trans (same_new (o := .tup (ss.map V.ref)) hS0)) am
    have asb := ask_mono (same_new (o := .tup (ss.map V.ref)) hS0) as
    generalize upd H5 S (.tup (ss.map V.ref)) = Hb at s45 hS hMb amb asb ⊢
    have rowb := rows.mono s45
    have pnb := pn3.mono s45 (Nat.le_refl _)
    have kpb : Kept p H Hb := kp12.trans (kp3.trans (Kept.of s45))
    have fin : ∀ H', Same Hb H' → Q (.bl true) H' := fun H' s' => q H' ((pnb.mono s' (Nat.le_refl _)).more (by omega)) (kpb.trans (Kept.of s'))
    have histM : ∀ {H'}, Same Hb H' → Hist K C H' M rs := fun s' => ⟨ms, .inl (SqL.of (s' _ _ hMb)), ask_mono s' amb⟩
    have histS : ∀ {H'}, Same Hb H' → Hist K C H' S rs := fun s' => ⟨ss, .inr (SqT.of (s' _ _ hS)), ask_mono s' asb⟩
    have sqR : ∀ {H'}, Same Hb H' → SqL K H' R (ps.map V.ref) := fun s' => SqL.of (s' _ _ (s45 _ _ ha))
    have sqM : ∀ {H'}, Same Hb H' → Sq K H' M (ms.map V.ref) := fun s' => .inl (SqL.of (s' _ _ hMb))
    have sqS : ∀ {H'}, Same Hb H' → Sq K H' S (ss.map V.ref) := fun s' => .inr (SqT.of (s' _ _ hS))
    have rowAt : ∀ {H'}, Same Hb H' → ∀ (i : Nat) q r, ps[i]? = some q → rs[i]? = some r → RowAt H' q r := fun s' i q r e1 e2 => s' _ _ (s45 _ _ (hp i q r e1 e2))
    clear am as hM hss hS0 hD2 hM0 s4 s5 hRn pn3 kp3 pn2 kp2 pn1 kp1 pnb kpb kp12 ex hL
    -- the first comparison
    refine ⟨.ref M, rfl, M, rs, rfl, histM (Same.refl _), hl, ok, nb, fun p1 H6 s6 e1 => ⟨.ref p1, partsD rs, rfl, dv_of _ _ (parts_dp e1), psh, pln, pdp, ?_⟩⟩
    refine ⟨.ref R, rfl, R, rs, rfl, rowb.mono s6, hl, ok, nb, fun p2 H7 s7 e2 => ⟨.ref p2, partsD rs, rfl, dv_of _ _ (parts_dp e2), psh, pln, pdp, rfl, false, ne_self, iteF' ?_⟩⟩
    have s67 := s6.trans s7
    refine ⟨.ref M, rfl, M, rs, rfl, histM s67, hl, ok, nb, fun p3 H8 s8 e3 => ⟨.ref p3, zonesD rs, rfl, dv_of _ _ (zones_dp e3), zsh, zln, zdp, ?_⟩⟩
    refine ⟨.ref R, rfl, R, rs, rfl, rowb.mono (s67.trans s8), hl, ok, nb, fun p4 H9 s9 e4 => ⟨.ref p4, zonesD rs, rfl, dv_of _ _ (zones_dp e4), zsh, zln, zdp, rfl, false, ne_self, iteF' ?_⟩⟩
    have t9 := (s67.trans s8).trans s9
    clear e1 e2 e3 e4 s6 s7 s8 s9 s67
    -- the second
    refine ⟨.ref S, rfl, S, rs, rfl, histS t9, hl, ok, nb, fun p1 H6 s6 e1 => ?_⟩
    refine ⟨.ref M, rfl, M, rs, rfl, histM (t9.trans s6), hl, ok, nb, fun p2 H7 s7 e2 => ?_⟩
    refine ⟨_, _, parts_dp (s7 _ _ e1), parts_dp e2, parts_shaped rs, parts_shaped rs, false, (by rw [eqv_parts]; rfl), iteF' ?_⟩
    have t7 := (t9.trans s6).trans s7
    refine ⟨.ref S, rfl, S, rs, rfl, histS t7, hl, ok, nb, fun p3 H8 s8 e3 => ?_⟩
    refine ⟨.ref M, rfl, M, rs, rfl, histM (t7.trans s8), hl, ok, nb, fun p4 HA sA e4 => ?_⟩
    have e3' : ZonesAt HA p3 (zonesOf rs) := by
      obtain ⟨qs, a1, a2, a3⟩ := e3
      exact ⟨qs, sA _ _ a1, a2, fun i q z x y => sA _ _ (a3 i q z x y)⟩
    refine ⟨_, _, zones_dp e3', zones_dp e4, zones_shaped rs, zones_shaped rs, false, (by rw [eqv_zones]; rfl), iteF' ?_⟩
    have tA := (t7.trans s8).trans sA
    refine ⟨.ref M, rfl, .ref M, _, rfl, (sqM tA).len, .ref R, rfl, .ref R, _, rfl, Sq.len (.inl (sqR tA)), rfl, false, ?_, iteF' ?_⟩
    · rw [List.length_map, List.length_map, lp, amb.1]
      exact ne_self
    clear e1 e2 e3 e3' e4 s6 s7 s8 sA t7 t9
    -- the third
    refine next_go ?_
    dsimp only
    refine if_no (fun H' => Same Hb H') (fun Qb z => ?_) (fun HB tB => ?_)
    · refine ⟨.ref R, rfl, Nat.zero_le _, fun L0 hL0 => ?_⟩
      have tB : Same Hb (upd HA L0 (.lst [])) := tA.trans (same_new hL0)
      refine ⟨.list (rs.map rowD), .list [], Dp.lst (sqR tB) (rows_dp lp (rowAt tB)), Dp.lst (SqL.of upd_same) .nil, ?_, by decide +kernel, !(rs.map rowD).isEmpty, (by rw [eqv_nilD]), ?_⟩
      · obtain ⟨h1, h2⟩ := rows_shaped hname
        refine shaped_of h1 ?_
        show PyData.depthAll _ + 1 ≤ 64
        omega
      generalize upd HA L0 (.lst []) = HB at tB ⊢
      cases hE : (rs.map rowD).isEmpty with
      | true => exact iteF' (z _ tB)
      | false =>
        have ne : 0 < rs.length := by
          cases rs with
          | nil => cases hE
          | cons r rs => exact Nat.succ_pos _
        have nm : 0 < ms.length := by rw [amb.1]; exact ne
        have e0 : ms[0]? = some ms[0] := List.getElem?_eq_getElem nm
        have r0 : rs[0]? = some rs[0] := List.getElem?_eq_getElem ne
        have lm : ms.length - 1 < ms.length := by omega
        have lr : ms.length - 1 < rs.length := by have := amb.1; omega
        have e1 : ms[ms.length - 1]? = some ms[ms.length - 1] := List.getElem?_eq_getElem lm
        have r1 : rs[ms.length - 1]? = some rs[ms.length - 1] := List.getElem?_eq_getElem lr
        have a0 : AskAt C HB ms[0] rs[0] := (amb.2 0 _ _ e0 r0).mono tB
        have a1 : AskAt C HB ms[ms.length - 1] rs[ms.length - 1] := (amb.2 _ _ _ e1 r1).mono tB
        have i0 : atI (ms.map V.ref) 0 = some (.ref ms[0]) := at_nat (i := 0) (by rw [List.getElem?_map, e0]; rfl)
        have i1 : atI (ms.map V.ref) (-1) = some (.ref ms[ms.length - 1]) := by
          unfold atI ixN
          rw [if_neg (by decide), if_pos (by rw [List.length_map]; omega), List.length_map, show (-1 + (ms.length : Int)).toNat = ms.length - 1 by omega]
          show (ms.map V.ref)[ms.length - 1]? = _
          rw [List.getElem?_map, e1]
          rfl
        obtain ⟨dx, hx⟩ := id a0
        generalize ms[0] = m0 at a0 i0 hx
        generalize ms[ms.length - 1] = m1 at a1 i1
        refine iteT' ⟨.ref M, rfl, Sq.ix (sqM tB) i0 ⟨m0, dx, flds rs[0], rfl, hx, rfl,   .ref M, rfl, 1, rfl, Sq.ix (sqM tB) i1 ⟨m0, rs[0], m1, _, rfl, a0, a1, ?_⟩⟩⟩
        refine ⟨.ref M, rfl, Sq.ix (sqM tB) i0 ⟨m0, dx, flds rs[0], rfl, hx, rfl,   .ref M, rfl, 1, rfl, Sq.ix (sqM tB) i1 ⟨m0, rs[0], m1, _, rfl, a0, a1, rfl, false, ne_self, z _ tB⟩⟩⟩
    -- the rows one by one
    refine ⟨.ref R, rfl, R, ps.map V.ref, rfl, sqR tB, ?_⟩
    refine for_it (walk_enum (K := K) (a := R) (xs := ps.map V.ref)) (fun i σ H' => ∃ x4 x5 x6 x7 x8, σ = [some (.ref p), some (.ref R), some (.ref M), some (.ref S), x4, x5, x6, x7, x8] ∧ Same Hb H') ⟨_, _, _, _, _, rfl, tB⟩ (fun i σ H' _ ⟨_, _, _, _, _, _, s'⟩ => sqR s') ?_ ?_
    · rintro i x σ H1 H2 hi ⟨x4, x5, x6, x7, x8, rfl, t1⟩ ⟨T0, xa, xb, rfl, hT0, rfl, ea, eb⟩
      have hi2 : i < ps.length := by rw [List.length_map] at hi; exact hi
      have hi3 : i < rs.length := by omega
      have hi4 : i < ms.length := by rw [amb.1]; exact hi3
      have hi5 : i < ss.length := by rw [asb.1]; exact hi3
      cases ea
      have ep : ps[i]? = some ps[i] := List.getElem?_eq_getElem hi2
      have er : rs[i]? = some rs[i] := List.getElem?_eq_getElem hi3
      have em : ms[i]? = some ms[i] := List.getElem?_eq_getElem hi4
      have es : ss[i]? = some ss[i] := List.getElem?_eq_getElem hi5
      have eb' : xb = .ref ps[i] := by
        dsimp only at eb
        rw [List.getElem?_map, ep] at eb
        exact (Option.some.inj eb).symm
      subst eb'
      have t2 := t1.trans (same_new (o := .tup [.int (i : Nat), .ref ps[i]]) hT0)
      have hrm : rs[i] ∈ rs := List.getElem_mem hi3
      have tellr := rsm _ hrm
      have namer := hname _ hrm
      have rAt : ∀ {H'}, Same Hb H' → RowAt H' ps[i] rs[i] := fun s' => rowAt s' i _ _ ep er
      have mAt : ∀ {H'}, Same Hb H' → AskAt C H' ms[i] rs[i] := fun s' => (amb.2 i _ _ em er).mono s'
      have sAt : ∀ {H'}, Same Hb H' → AskAt C H' ss[i] rs[i] := fun s' => (asb.2 i _ _ es er).mono s'
      have im : atI (ms.map V.ref) (i : Int) = some (.ref ms[i]) := at_nat (by rw [List.getElem?_map, em]; rfl)
      have is_ : atI (ss.map V.ref) (i : Int) = some (.ref ss[i]) := at_nat (by rw [List.getElem?_map, es]; rfl)
      refine ⟨T0, [.int (i : Nat), .ref ps[i]], rfl, .inl (.inl upd_same), rfl, _, _, rfl, _, _, rfl, rfl, ?_⟩
      generalize upd H1 T0 (.tup [.int (i : Nat), .ref ps[i]]) = H3 at t2 ⊢
      generalize rs[i] = r at rAt mAt sAt tellr namer er
      generalize ps[i] = qp at rAt
      generalize ms[i] = mm at mAt im
      generalize ss[i] = sm at sAt is_
      obtain ⟨tsh, tln, tdp⟩ := tellr
      refine ⟨.ref M, rfl, .int i, rfl, Sq.ix (sqM t2) im ?_⟩
      refine nx_go ?_
      dsimp only
      refine if_no (fun H' => Same Hb H') (fun Qb z => ?_) (fun H4 t4 => ?_)
      · obtain ⟨dx, hx⟩ := mAt t2
        refine ⟨_, rfl, mm, C, dx, flds r, .str r.c, rfl, hx, A.cl, A.nc, rfl, _, rfl, mm, C, dx, flds r, .str (wd r.g), rfl, hx, A.cl, A.nw, rfl, _, rfl, mm, C, dx, flds r, .int r.b, rfl, hx, A.cl, A.nb, rfl, ?_⟩
        refine ⟨_, rfl, mm, C, dx, flds r, oV r.e, rfl, hx, A.cl, A.ne, rfl, _, rfl, mm, C, dx, flds r, oV r.t, rfl, hx, A.cl, A.nt, rfl, by show 5 ≤ sizeLine; decide, fun T1 hT1 => ?_⟩
        have t3 := t2.trans (same_new (o := .tup [.str r.c, .str (wd r.g), .int r.b, oV r.e, oV r.t]) hT1)
        refine ⟨.ref T1, rowD r, rfl, dv_of _ _ (row_dp (show RowAt _ T1 r from upd_same)), tsh, tln, tdp, .ref qp, rfl, .ref qp, rowD r, rfl, dv_of _ _ (row_dp (rAt t3)), tsh, tln, tdp, rfl, false, ne_self, iteF' ?_⟩
        refine ⟨.ref mm, rfl, .ref S, rfl, .int i, rfl, Sq.ix (sqS t3) is_ (eqA_go A AF.nf (mAt t3) (sAt t3) ⟨_, rfl, ?_⟩)⟩
        rw [decide_eq_true rfl]
        exact z _ t3
      refine ⟨.ref R, rfl, R, ps.map V.ref, rfl, sqR t4, ?_⟩
      refine for_it (walk_enum (K := K) (a := R) (xs := ps.map V.ref)) (fun k σ H' => ∃ x7 x8, σ = [some (.ref p), some (.ref R), some (.ref M), some (.ref S), some (.int i), some (.ref qp), some (.ref mm), x7, x8] ∧ Same Hb H') ⟨_, _, rfl, t4⟩ (fun i σ H' _ ⟨_, _, _, s'⟩ => sqR s') ?_ ?_
      · rintro k x σ H5 H6 hk ⟨x7, x8, rfl, t5⟩ ⟨T1, xa, xb, rfl, hT1, rfl, ea, eb⟩
        have hk2 : k < ps.length := by rw [List.length_map] at hk; exact hk
        have hk3 : k < rs.length := by omega
        have hk4 : k < ms.length := by rw [amb.1]; exact hk3
        cases ea
        have ep' : ps[k]? = some ps[k] := List.getElem?_eq_getElem hk2
        have er' : rs[k]? = some rs[k] := List.getElem?_eq_getElem hk3
        have em' : ms[k]? = some ms[k] := List.getElem?_eq_getElem hk4
        have eb' : xb = .ref ps[k] := by
          dsimp only at eb
          rw [List.getElem?_map, ep'] at eb
          exact (Option.some.inj eb).symm
        subst eb'
        have t6 := t5.trans (same_new (o := .tup [.int (k : Nat), .ref ps[k]]) hT1)
        have hkm : rs[k] ∈ rs := List.getElem_mem hk3
        have names := hname _ hkm
        have oAt : ∀ {H'}, Same Hb H' → RowAt H' ps[k] rs[k] := fun s' => rowAt s' k _ _ ep' er'
        have kAt : ∀ {H'}, Same Hb H' → AskAt C H' ms[k] rs[k] := fun s' => (amb.2 k _ _ em' er').mono s'
        have ik : atI (ms.map V.ref) (k : Int) = some (.ref ms[k]) := at_nat (by rw [List.getElem?_map, em']; rfl)
        refine ⟨T1, [.int (k : Nat), .ref ps[k]], rfl, .inl (.inl upd_same), rfl, _, _, rfl, _, _, rfl, rfl, ?_⟩
        generalize upd H5 T1 (.tup [.int (k : Nat), .ref ps[k]]) = H7 at t6 ⊢
        generalize rs[k] = s2 at oAt kAt names
        generalize ps[k] = qo at oAt
        generalize ms[k] = mk at kAt ik
        refine if_no (fun H' => Same Hb H') (fun Qb z => ?_) (fun H8 t8 => ?_)
        · obtain ⟨dx, hx⟩ := mAt t6
          obtain ⟨bsh, bln, bdp⟩ := (sm_bool (ahead r s2)).tell (by decide) (by decide)
          refine ⟨.ref mm, rfl, mm, dx, flds r, rfl, hx, rfl, .ref M, rfl, .int k, rfl, Sq.ix (sqM t6) ik ⟨mm, r, mk, s2, rfl, mAt t6, kAt t6, .bl (ahead r s2), .bool (ahead r s2), rfl, .bl _, bsh, bln, bdp, ?_⟩⟩
          have sq : Sq K H7 qp (rowV r) := .inr (SqT.of (rAt t6))
          have sq2 : Sq K H7 qo (rowV s2) := .inr (SqT.of (oAt t6))
          refine ⟨.ref qp, rfl, Sq.ix sq rfl ⟨rfl, r.e.isSome, (by cases r.e <;> rfl), ?_⟩⟩
          cases he : r.e with
          | none =>
            have ea : ahead r s2 = false := by unfold ahead; rw [he]
            rw [ea] at bsh bln bdp ⊢
            exact iteF' ⟨.bl false, .bool false, rfl, .bl _, bsh, bln, bdp, rfl, false, ne_self, z _ t6⟩
          | some e =>
            have ea : ahead r s2 = decide (e < s2.b) := by unfold ahead; rw [he]
            rw [ea] at bsh bln bdp ⊢
            exact iteT' ⟨.ref qp, rfl, Sq.ix sq (show atI (rowV r) 3 = some (.int e) from by unfold rowV; rw [he]; rfl) ⟨.ref qo, rfl, Sq.ix sq2 rfl ⟨e, s2.b, rfl, rfl, .bl _, .bool _, rfl, .bl _, bsh, bln, bdp, rfl, false, ne_self, z _ t6⟩⟩⟩
        refine if_noL (fun H' => Same Hb H') (fun Qb z => ?_) (fun H9 t9 => ⟨_, _, rfl, t9⟩)
        refine ⟨.ref mm, rfl, .ref M, rfl, .int k, rfl, Sq.ix (sqM t8) ik (eqA_go A AF.nf (mAt t8) (kAt t8) ?_)⟩
        refine ⟨.ref qp, rfl, .ref qo, rfl, rowD r, rowD s2, row_dp (rAt t8), row_dp (oAt t8), row_shaped namer, row_shaped names, rfl, false, ?_, iteF' ?_⟩
        · rw [eqv_row]
          cases decide (r = s2) <;> rfl
        refine ⟨.ref mm, rfl, .ref M, rfl, .int k, rfl, Sq.ix (sqM t8) ik (eqA_go A AF.nf (mAt t8) (kAt t8) ?_)⟩
        refine ⟨.ref qp, rfl, .ref qo, rfl, rowD r, rowD s2, row_dp (rAt t8), row_dp (oAt t8), row_shaped namer, row_shaped names, rfl, false, ?_, z _ t8⟩
        rw [eqv_row]
        cases decide (r = s2) <;> rfl
      · rintro σ H5 ⟨x7, x8, rfl, t5⟩
        exact ⟨_, _, _, _, _, rfl, t5⟩
    · rintro σ H1 ⟨x4, x5, x6, x7, x8, rfl, t1⟩
      exact fin _ t1
end
end K34
end

section
set_option Elab.async false
set_option linter.all false
set_option maxRecDepth 100000
set_option maxHeartbeats 4000000
/-! tables of code objects; asks that are made -/
namespace K34
open PySem PySem.Spec PyProof.Rows L2 KZ
/-- as okG, the def's code object known -/
theorem okGc {P : Program} {w : World} {K : PySem.W.Frag} {mg : Str → Option Value} {base : Heap} {x qual : Str} {st : Stmt} {f c : Addr} {fd : FuncData} {N ps : List Str} {k : Nat} {sp : Sp} (F : Fun K x qual st f fd) (hc : fd.code = .ref c) (S : FnScope N ps (defScope st))
    (len : ∀ vs H Q E, sp vs H Q E → vs.length = ps.length)
    (hbody : ∀ (A : Around) (out : List Env) (s : Shared) (H : Hp) (vs : List V) (Q : VK) (E : XK), A.guards = some [] → Room k (A.deeper (envOfC qual (defScope st) s.heap.objs.size f (.ref c))) → sp vs H Q E →
      ∃ t, PSs (cxOf CX0 P w K mg base N qual (defScope st) f (.ref c) A out s H E).nox (defBody st) t ∧ t { nx := fun _ H' => Q .non H', rt := Q } (start N vs) H) : FnG P w K mg base CX0 (k + 1) f fd ps sp := by
  obtain ⟨oc, od, kV, doc, pm, an, cdv, ct, osl, rfl, lk, hcd⟩ := F.ex
  obtain rfl : cdv = .ref c := hc
  refine ⟨len, fun A out s H ar us vs Q E hgd hr e0 hb r hsp => LamX.run_ofS (N := N) lk hcd S hr e0 hb r (len _ _ _ _ hsp) fun hr' => ?_⟩
  obtain ⟨t, ht, q⟩ := hbody A out s H vs Q E hgd hr' hsp
  exact ⟨t, ht.nox, q⟩
theorem pen_ext {H H' : Hp} {p c : Addr} {cells : List Int} {n : Nat} (h : PenAt H p c cells n) (e : LamX.ExtN H H') : PenAt H' p c cells n := by
  obtain ⟨a, g, h1, h2, h3, h4⟩ := h.ex
  exact ⟨⟨a, g, e _ _ h1 (fun _ z => nomatch z), h2, h3, h4⟩, e _ _ h.cs (fun _ z => nomatch z), h.few, h.ne⟩
theorem tabs_same {T : List (Addr × Str)} {H H' : Hp} (h : LamX.Tabs T H) (s : Same H H') : LamX.Tabs T H' := h.ext s
theorem tabs_kept {T : List (Addr × Str)} {H H' : Hp} {p c : Addr} {cells : List Int} {n : Nat} (h : LamX.Tabs T H) (pen : PenAt H p c cells n) (k : Kept p H H') : LamX.Tabs T H' := fun t ht => by
  obtain ⟨ps, h1, h2, h3⟩ := h t ht
  obtain ⟨a, g, hp, _⟩ := pen.ex
  refine ⟨ps, k _ _ (fun z => by rw [z, hp] at h1; cases h1) h1, h2, fun pos cv hc => ?_⟩
  obtain ⟨c, e1, e2⟩ := h3 pos cv hc
  exact ⟨c, e1, k _ _ (fun z => by
    rw [z, hp] at e2
    have e3 := Option.some.inj e2
    have e4 : HO.lst _ = HO.ext _ := e3
    cases e4) e2⟩
theorem tabs_lst {T : List (Addr × Str)} {H : Hp} {l : Addr} {xs ys : List V} (h : LamX.Tabs T H) (hl : H l = some (.lst xs)) : LamX.Tabs T (upd H l (.lst ys)) := fun p hp => by
  obtain ⟨ps, h1, h2, h3⟩ := h p hp
  refine ⟨ps, by rw [upd_ne (fun z => by rw [z, hl] at h1; cases h1)]; exact h1, h2, fun pos cv hc => ?_⟩
  obtain ⟨c, e1, e2⟩ := h3 pos cv hc
  exact ⟨c, e1, by
    rw [upd_ne (fun z => by
      rw [z, hl] at e2
      have e3 := Option.some.inj e2
      have e4 : HO.lst xs = HO.ext _ := e3
      cases e4)]
    exact e2⟩
/-- a def with lambdas: its code object, its table -/
structure LamAt (T0 : List (Addr × Str)) (base : Heap) (mg : Str → Option Value) (cc Pt : Addr) (q : Str) : Prop where
  tb : LamX.TabB base mg cc Pt
  mem : (Pt, q ++ "<lambda>") ∈ T0
  uq : ∀ p ∈ T0, p.1 = Pt → p.2 = q ++ "<lambda>"
abbrev psI : List Str := ["self", "client", "word", "begun", "ended", "told"]
/-- Ask(..), as it is called -/
structure InitF (P : Program) (w : World) (K : PySem.W.Frag) (mg : Str → Option Value) (base : Heap) (C cB : Addr) : Prop where
  ex : ∃ f fd, Mk K C f ∧ FnOk P w K mg base (L2.CX P w) 8 f fd psI (spInit K C cB) ∧ Binds K fd psI [] ∧ (∃ ds, Vals [V.non] ds ∧ Binds K fd psI ds) ∧ (∃ ds, Vals [V.non, V.non] ds ∧ Binds K fd psI ds) ∧
    (∃ g, KBn K fd psI 1 ["told", "ended", "begun", "word", "client"] g fun vs zs => vs ++ zs.reverse) ∧ ∃ g, KBn K fd psI 4 ["ended", "told"] g fun vs zs => vs ++ zs
section
variable {K : PySem.W.Frag} {C cB : Addr}
theorem same2 {H : Hp} {x dx : Addr} {o u : HO} (hx : H x = none) (hdx : H dx = none) (ne : dx ≠ x) : Same H (upd (upd H dx o) x u) :=
  (same_new hdx).trans (same_new (by rw [upd_ne ne.symm]; exact hx))
theorem mk_go {H : Hp} {x dx : Addr} {vc vw vb ve vt : V} {dc dw db de dt : PyData} {Q : VK} {E : XK} (hx : H x = none) (hdx : H dx = none) (ne : dx ≠ x) (gc : Dv K H vc dc) (sz : ∀ y, dc = .str y → y.length ≤ 1000) (gw : Dv K H vw dw) (nw : nod dw = true) (sw : SeqAt.shaped dw = true)
    (gb : Dv K H vb db) (ge : Dv K H ve de) (gt : Dv K H vt dt) (good : ∀ r : Row, r.Ok → dc = .str r.c → dw = .str (wd r.g) → db = .int r.b → de = oD r.e → dt = oD r.t → ∀ H', Same H H' → AskAt C H' x r → Q .non H')
    (no : ∀ p, bad dc dw db de dt = some p → OutF cB [("part", .str p)] H E) : spInit K C cB [.ref x, vc, vw, vb, ve, vt] (upd (upd H dx (.own x)) x (.ins C dx [])) Q E := by
  have s2 : Same H (upd (upd H dx (.own x)) x (.ins C dx [])) := same2 hx hdx ne
  exact ⟨x, dx, vc, dc, vw, dw, vb, db, ve, de, vt, dt, rfl, upd_same, Dv.mono s2 gc, sz, Dv.mono s2 gw, nw, sw, Dv.mono s2 gb, Dv.mono s2 ge, Dv.mono s2 gt,
    fun r ok e1 e2 e3 e4 e5 H' keep ask => good r ok e1 e2 e3 e4 e5 H' (fun b o e => keep b o (ne_of_none e hx) (s2 b o e)) ask, fun p h => (no p h).at s2⟩
theorem row_of {r r' : Row} (e1 : PyData.str r.c = .str r'.c) (e2 : PyData.str (wd r.g) = .str (wd r'.g)) (e3 : PyData.int r.b = .int r'.b) (e4 : oD r.e = oD r'.e) (e5 : oD r.t = oD r'.t) : r' = r := by
  obtain ⟨c1, g1, b1, e1', t1⟩ := r
  obtain ⟨c2, g2, b2, e2', t2⟩ := r'
  have h1 : c1 = c2 := PyData.str.inj e1
  have h2 : g1 = g2 := by
    have h : wd g1 = wd g2 := PyData.str.inj e2
    clear e1 e2 e3 e4 e5
    cases g1 <;> cases g2
    · rfl
    · exact absurd h (show ¬ wd false = wd true by decide +kernel)
    · exact absurd h (show ¬ wd true = wd false by decide +kernel)
    · rfl
  have h3 : b1 = b2 := PyData.int.inj e3
  have h4 : e1' = e2' := by
    cases e1' <;> cases e2' <;> first | rfl | (cases e4; done) | (cases e4; rfl)
  have h5 : t1 = t2 := by
    cases t1 <;> cases t2 <;> first | rfl | (cases e5; done) | (cases e5; rfl)
  rw [h1, h2, h3, h4, h5]
/-- the ask of a row that is right -/
theorem mk_row {H : Hp} {x dx : Addr} {r : Row} {Q : VK} {E : XK} (ok : r.Ok) (cl : r.c.length ≤ 1000) (hx : H x = none) (hdx : H dx = none) (ne : dx ≠ x) (good : ∀ H', Same H H' → AskAt C H' x r → Q .non H') :
    spInit K C cB [.ref x, .str r.c, .str (wd r.g), .int r.b, oV r.e, oV r.t] (upd (upd H dx (.own x)) x (.ins C dx [])) Q E :=
  mk_go hx hdx ne (.str _) (fun y e => by cases e; exact cl) (.str _) rfl (by cases r.g <;> decide +kernel) (.int _) (oD_dv _) (oD_dv _) (fun r' ok' e1 e2 e3 e4 e5 H' s' ask => good H' s' (by rw [row_of e1 e2 e3 e4 e5] at ask; exact ask)) fun p h => by
    rw [bad_of ok] at h
    cases h
end
end K34
end

section
set_option Elab.async false
set_option linter.all false
set_option maxRecDepth 100000
set_option maxHeartbeats 4000000
/-! asks that are alike, and such as are not -/
namespace K34
open PySem PySem.Spec PyProof.Rows L2 KZ
abbrev sUR : Stmt := top 31
/-- the def that hears -/
structure HeardF (K : PySem.W.Frag) (mg : Str → Option Value) (cO cB cT : Addr) : Prop where
  ex : ∃ f fd, mg "_law_heard" = some (.ref f) ∧ Fun K "_law_heard" "_law_heard" sHeard f fd ∧ Binds K fd ["work"] []
  gO : mg "OpenError" = some (.ref cO)
  gB : mg "BadAsk" = some (.ref cB)
  gT : mg "TooMany" = some (.ref cT)
  gV : mg "ValueError" = none
  EB : HErr K cO cB cT
theorem pe_heard {X : Cx} {cO cB cT c Pt : Addr} {T0 : List (Addr × Str)} {t : XK → TE} {params : Arguments} {body : Expr} {scope : Scope} {p lpos pos : Pos} (HF : HeardF X.K X.mg cO cB cT) (LA : LamAt T0 X.base X.mg c Pt X.env.qual) (T : B1 X.mg) (hmd : ModsD X.base) (hgd : X.A.guards = some []) (hr : Room 12 X.A)
    (hg : Gl X "_law_heard") (hcode : X.env.code = .ref c) (L : LamX.LamS X.env.scope scope) (hdef : defaultsOf params X.env = ([], []))
    (hbind : ∀ (q : Str) (cl : List (Str × Addr)) (pm cv ctv : Value), bindArgs (PySem.W.kla_fn "<lambda>" q params body scope cl pm cv ctv) ⟨[], []⟩ = pure [])
    (hbody : ∀ (A : Around) (outer : List Env) (s : Shared) (H : Hp) (E : XK) (f c' : Addr), Room 10 (A.deeper (LamX.lamEnv X scope s.heap.objs.size f c')) → PE (LamX.lamCx X A outer s H E scope f c') body (t E)) :
    PE X (.Call (.Name "_law_heard" p) [.Lambda params body scope lpos] [] pos) (LamX.tLam T0 (TTh X.K cB cT) t) := by
  obtain ⟨fH, dH, gH, FH, bH0⟩ := HF.ex
  have kH := FH.kp
  obtain ⟨ocH, odH, kVH, docH, pmH, anH, cdvH, ctH, oslH, rfl, lkH, hcH⟩ := FH.ex
  exact LamX.pe_lamcall (t := t) (T := T0) (Ng := ["work", "caught", "error"]) (k := 10) hg gH kH lkH hcH bH0 scHeard rfl (Or.inl rfl) (heard_gives (X := X) rfl hgd (hr.mono (by decide)) hmd HF.gO HF.gB HF.gT HF.gV T HF.EB) LA.tb hcode LA.mem LA.uq hr L hdef hbind hbody
/-- is_ahead, as it lets out -/
structure AheadF (P : Program) (w : World) (K : PySem.W.Frag) (mg : Str → Option Value) (base : Heap) (C cB : Addr) : Prop where
  ex : ∃ f fd, Meth K C "is_ahead" f ∧ FnOk P w K mg base (L2.CX P w) 7 f fd ["self", "other"] (spAhead K C cB) ∧ Binds K fd ["self", "other"] []
  nfs : ∀ T ∈ ["NoneType", "bool", "int", "str", "list", "tuple", "dict"], PySem.W.notFirst K C (.type T) = true
def spUR (T0 : List (Addr × Str)) : Sp := fun vs H Q _ => ∃ (p c : Addr) (cells : List Int) (n : Nat), vs = [.ref p] ∧ PenAt H p c cells n ∧ n ≤ 4500 ∧ LamX.Tabs T0 H ∧ ∀ H', PenAt H' p c cells (n + 10) → LamX.Tabs T0 H' → Q (.bl true) H'
def rowsU (b m : Int) : List Row := [⟨"a", true, b, some (b + m), some 3⟩, ⟨"b", true, b, some (b + m), some 3⟩, ⟨"a", true, b, some (b + m), none⟩, ⟨"a", true, b, some (b + m), some 4⟩, ⟨"a", true, b, some (b + m + 1), some 3⟩, ⟨"a", false, b, some (b + m), none⟩,
  ⟨"a", true, b, none, none⟩, ⟨"a", true, b + 1, some (b + m + 1), some 3⟩, ⟨"a", false, b, none, none⟩]
theorem row_ok {c : Str} {g : Bool} {b : Int} {e t : Option Int} (hc : c = "a" ∨ c = "b") (b0 : 0 ≤ b) (he : ∀ x, e = some x → b < x) (ht : ∀ x, t = some x → g = true ∧ e ≠ none ∧ 0 ≤ x) : (⟨c, g, b, e, t⟩ : Row).Ok := by
  refine ⟨?_, b0, he, ht⟩
  rcases hc with z | z <;> (show isName (.str c) = true; rw [z]; decide +kernel)
theorem rowsU_ok {b m : Int} (hb : 0 ≤ b) (hm : 0 < m) : ∀ r ∈ rowsU b m, r.Ok ∧ (r.c = "a" ∨ r.c = "b") := by
  intro r h
  unfold rowsU at h
  have n3 : ∀ {g : Bool} {e : Int} {t : Int}, 0 ≤ t → ∀ x, some t = some x → true = true ∧ some e ≠ none ∧ 0 ≤ x := fun h x z => ⟨rfl, (fun y => nomatch y), by cases z; exact h⟩
  rcases List.mem_cons.mp h with rfl | h
  · exact ⟨row_ok (.inl rfl) hb (fun x z => by cases z; omega) (n3 (g := true) (by decide)), .inl rfl⟩
  rcases List.mem_cons.mp h with rfl | h
  · exact ⟨row_ok (.inr rfl) hb (fun x z => by cases z; omega) (n3 (g := true) (by decide)), .inr rfl⟩
  rcases List.mem_cons.mp h with rfl | h
  · exact ⟨row_ok (.inl rfl) hb (fun x z => by cases z; omega) (fun x z => nomatch z), .inl rfl⟩
  rcases List.mem_cons.mp h with rfl | h
  · exact ⟨row_ok (.inl rfl) hb (fun x z => by cases z; omega) (n3 (g := true) (by decide)), .inl rfl⟩
  rcases List.mem_cons.mp h with rfl | h
  · exact ⟨row_ok (.inl rfl) hb (fun x z => by cases z; omega) (n3 (g := true) (by decide)), .inl rfl⟩
  rcases List.mem_cons.mp h with rfl | h
  · exact ⟨row_ok (.inl rfl) hb (fun x z => by cases z; omega) (fun x z => nomatch z), .inl rfl⟩
  rcases List.mem_cons.mp h with rfl | h
  · exact ⟨row_ok (.inl rfl) hb (fun x z => nomatch z) (fun x z => nomatch z), .inl rfl⟩
  rcases List.mem_cons.mp h with rfl | h
  · exact ⟨row_ok (.inl rfl) (by omega) (fun x z => by cases z; omega) (n3 (g := true) (by decide)), .inl rfl⟩
  rcases List.mem_cons.mp h with rfl | h
  · exact ⟨row_ok (.inl rfl) hb (fun x z => nomatch z) (fun x z => nomatch z), .inl rfl⟩
  · cases h
section
variable {P : Program} {w : World} {K : PySem.W.Frag} {mg : Str → Option Value} {base : Heap} {C cO cB cT : Addr}
theorem eqA_odd {H : Hp} {Q : VK} {a : Addr} {r : Row} {y : V} {t : Value} (ha : AskAt C H a r) (ty : TyOf K H y t) (nf : PySem.W.notFirst K C t = true) (kn : PySem.W.kitOne K t (.ref C) = some false) {neg : Bool} (q : Q (.bl (neg != false)) H) : rOwn K C (spEqA K C) E0 neg (.ref a) y H Q := by
  obtain ⟨dx, hx⟩ := id ha
  exact ⟨a, dx, flds r, t, rfl, hx, ty, nf, a, r, y, rfl, ha, .inr ⟨⟨t, .base ty, kn⟩, false, rfl, q⟩⟩
theorem scUR : FnScope ["well", "begun", "more", "some", "one", "other", "plain", "odd"] ["well"] (defScope sUR) := ⟨rfl, rfl, rfl, by decide +kernel, rfl, by decide +kernel, by decide +kernel⟩
theorem ok_ur (hmd : ModsD base) {f cc Pt : Addr} {fd : FuncData} {T0 : List (Addr × Str)} (F : Fun K "_law_unlike_right" "_law_unlike_right" sUR f fd) (hcode : fd.code = .ref cc) (LA : LamAt T0 base mg cc Pt ("_law_unlike_right" ++ ".<locals>.")) (T : B1 mg) (A : AskC K mg C) (AF : AskF P w K mg base C) (L : LF P w K mg base C)
    (HF : HeardF K mg cO cB cT) (AH : AheadF P w K mg base C cB) (IF : InitF P w K mg base C cB) : FnG P w K mg base CX0 13 f fd ["well"] (spUR T0) := by
  obtain ⟨fD, dD, gD, GD, kD, bD⟩ := L.draw.ex
  obtain ⟨fO, dO, gO_, GO, kO, bO⟩ := L.one.ex
  obtain ⟨fM, dM, gM, GM, kM, bM⟩ := L.made.ex
  obtain ⟨fE, dE, GE, O⟩ := AF.eq
  obtain ⟨fA0, dA0, MA0, GA0, bA0⟩ := AH.ex
  obtain ⟨fI, dI, MK, GI, bI5, ⟨ds4, vI4, bI4⟩, ⟨ds3, vI3, bI3⟩, ⟨g1, kb1⟩, ⟨g4, kb4⟩⟩ := IF.ex
  have GI0 := FnOk.x0 GI
  refine okGc F hcode scUR (fun vs H Q E h => ?_) (fun A' outer s0 H vs Q E hgd hr h => ?_)
  · obtain ⟨p, c, cells, n, rfl, _⟩ := h
    rfl
  · obtain ⟨p, c, cells, n, rfl, pen, hn, tabs, q⟩ := h
    have hr12 : Room 12 _ := hr
    have hr10 : Room 10 _ := hr.mono (by decide)
    have hr9 : Room 9 _ := hr.mono (by decide)
    have hr2 : Room 2 _ := hr.mono (by decide)
    have hr1 : Room 1 _ := hr.mono (by decide)
    refine ⟨_, (pss_cons (ps_par (i := 1) (j := 2) (by rfl) scUR.nd rfl rfl (by decide) rfl rfl (pa_cons (pe_call GD hr1 (by rfl) gD kD bD .nil pass0 (pa_cons (pv 0) (pa_cons (pe_op op_pow pe_int pe_int) pa_nil))) (pa_cons (pe_op op_add pe_int (pe_call GD hr1 (by rfl) gD kD bD .nil pass0 (pa_cons (pv 0) (pa_cons pe_int pa_nil)))) pa_nil)) (by rfl))
(pss_cons (ps_set (i := 3) scUR.nd rfl (Or.inl rfl) (pe_lst (pa_cons (pe_tup (pa_cons pe_str (pa_cons pe_str (pa_cons (pv 1) (pa_cons (pe_op op_add (pv 1) (pv 2)) (pa_cons pe_int pa_nil)))))) (pa_cons (pe_tup (pa_cons pe_str (pa_cons pe_str (pa_cons (pv 1) (pa_cons (pe_op op_add (pv 1) (pv 2)) (pa_cons pe_int pa_nil)))))) (pa_cons (pe_tup (pa_cons pe_str (pa_cons pe_str (pa_cons (pv 1) (pa_cons (pe_op op_add (pv 1) (pv 2)) (pa_cons pe_non pa_nil)))))) pa_nil)))))
(pss_cons (ps_set (i := 3) scUR.nd rfl (Or.inl rfl) (pe_op op_cat (pv 3) (pe_lst (pa_cons (pe_tup (pa_cons pe_str (pa_cons pe_str (pa_cons (pv 1) (pa_cons (pe_op op_add (pv 1) (pv 2)) (pa_cons pe_int pa_nil)))))) (pa_cons (pe_tup (pa_cons pe_str (pa_cons pe_str (pa_cons (pv 1) (pa_cons (pe_op op_add (pe_op op_add (pv 1) (pv 2)) pe_int) (pa_cons pe_int pa_nil)))))) (pa_cons (pe_tup (pa_cons pe_str (pa_cons pe_str (pa_cons (pv 1) (pa_cons (pe_op op_add (pv 1) (pv 2)) (pa_cons pe_non pa_nil)))))) pa_nil))))))
(pss_cons (ps_set (i := 3) scUR.nd rfl (Or.inl rfl) (pe_op op_cat (pv 3) (pe_lst (pa_cons (pe_tup (pa_cons pe_str (pa_cons pe_str (pa_cons (pv 1) (pa_cons pe_non (pa_cons pe_non pa_nil)))))) (pa_cons (pe_tup (pa_cons pe_str (pa_cons pe_str (pa_cons (pe_op op_add (pv 1) pe_int) (pa_cons (pe_op op_add (pe_op op_add (pv 1) (pv 2)) pe_int) (pa_cons pe_int pa_nil)))))) (pa_cons (pe_tup (pa_cons pe_str (pa_cons pe_str (pa_cons (pv 1) (pa_cons pe_non (pa_cons pe_non pa_nil)))))) pa_nil))))))
(pss_cons (ps_for PassesOwn.never rfl (pi_list (pv 3)) (pg_name (i := 4) scUR.nd rfl (Or.inl rfl))
(pss_one (ps_for PassesOwn.never rfl (pi_list (pv 3)) (pg_name (i := 5) scUR.nd rfl (Or.inl rfl))
(pss_one (ps_if (PW.pt (pw_or (pt_cmpR op_ne (pe_cmpR (op_eqO GE O pass0 hr1) (pe_call GM hr10 (by rfl) gM kM bM .nil pass0 (pa_cons (pv 4) pa_nil)) (pe_call GM hr10 (by rfl) gM kM bM .nil pass0 (pa_cons (pv 5) pa_nil)) (nomark _)) (pe_cmpR (op_eqD hr.units) (pv 4) (pv 5) (nomark _)) (nomark _)) (pw_or1 (pt_cmpR op_ne (pe_cmpR (op_neO GE O pass0 hr2) (pe_call GM hr10 (by rfl) gM kM bM .nil pass0 (pa_cons (pv 4) pa_nil)) (pe_call GM hr10 (by rfl) gM kM bM .nil pass0 (pa_cons (pv 5) pa_nil)) (nomark _)) (pe_cmpR (op_neD hr.units) (pv 4) (pv 5) (nomark _)) (nomark _)))))
(pss_one (ps_ret pe_bl))
pss_nil)))))
(pss_cons (ps_set (i := 6) scUR.nd rfl (Or.inr rfl) (pe_make MK GI0 hr9 (by rfl) A.mg bI3 vI3 pass0 (pa_cons pe_str (pa_cons pe_str (pa_cons (pv 1) pa_nil)))))
(pss_cons (ps_if (PW.pt (pw_or (pt_cmpR (op_neO GE O pass0 hr2) (pv 6) (pe_makeK0 MK GI0 hr9 (by rfl) A.mg kb1 pass0 (pk_cons pe_non (pk_cons pe_non (pk_cons (pv 1) (pk_cons pe_str (pk_cons pe_str pk_nil)))))) (nomark _)) (pw_or (pt_cmpR op_notN (pe_fld (pv 6) rfl) pe_non (nomark _)) (pw_or1 (pt_cmpR op_notN (pe_fld (pv 6) rfl) pe_non (nomark _))))))
(pss_one (ps_ret pe_bl))
pss_nil)
(pss_cons (ps_if (pt_cmpR (op_neO GE O pass0 hr2) (pe_make MK GI0 hr9 (by rfl) A.mg bI4 vI4 pass0 (pa_cons pe_str (pa_cons pe_str (pa_cons (pv 1) (pa_cons (pe_op op_add (pv 1) pe_int) pa_nil))))) (pe_makeK MK GI0 hr9 (by rfl) A.mg kb4 pass0 (pa_cons pe_str (pa_cons pe_str (pa_cons (pv 1) pa_nil))) (pk_cons (pe_op op_add (pv 1) pe_int) (pk_cons pe_non pk_nil))) (nomark _))
(pss_one (ps_ret pe_bl))
pss_nil)
(pss_cons (ps_set (i := 7) scUR.nd rfl (Or.inr rfl) (pe_call GO hr2 (by rfl) gO_ kO bO .nil pass0 (pa_cons (pv 0) (pa_cons (pe_lst (pa_cons pe_non (pa_cons pe_int (pa_cons pe_str (pa_cons (pe_tup (pa_cons pe_str (pa_cons pe_str (pa_cons (pv 1) (pa_cons pe_non (pa_cons pe_non pa_nil)))))) (pa_cons (pe_lst (pa_cons (pv 6) pa_nil)) (pa_cons pe_dnewK pa_nil))))))) pa_nil))))
(pss_one (ps_ret (pe_and (pe_cmpR (op_neO GE O pass0 hr2) (pv 6) (pv 7) (nomark _)) (pe_and (pe_not (pe_cmpR (op_eqO GE O pass0 hr1) (pv 6) (pv 7) (nomark _))) (pe_one (pe_cmpR (op_eqD hr.units) (pe_heard (t := fun E_ => tMeth C "is_ahead" (spAhead K C cB) [] E_ (tVar 6) (tCons (tVar 7) tNil)) HF LA T hmd hgd hr12 (by rfl) rfl (LamX.lamS_by (sc := defScope sUR) (by decide +kernel)) rfl (fun _ _ _ _ _ => rfl) (fun A_ outer_ s_ H_ E_ f_ c_ hr_ => pe_meth (pv 6) A.cl MA0 GA0 (hr_.mono (by decide)) bA0 .nil (passes_call (takes_of rfl rfl rfl rfl) fun _ _ _ _ z => z) (pa_cons (pv 7) pa_nil))) (pe_tup (pa_cons pe_str (pa_cons pe_str pa_nil))) (nomark _)))))))))))))))), ?_⟩
    refine ⟨.ref p, rfl, 10, 9, rfl, rfl, ⟨by decide, by decide, by decide⟩, p, c, cells, n, _, rfl, pen, by omega, by decide, by decide, fun b H1 b0 b1 pn1 kp1 => ?_⟩
    refine ⟨.ref p, rfl, p, c, cells, n + 1, 50, rfl, pn1, by omega, by decide, by decide, fun x H2 x0 x1 pn2 kp2 => ⟨1, x, rfl, rfl, _, _, rfl, ?_⟩⟩
    obtain ⟨m, hm⟩ : ∃ m, m = 1 + x := ⟨_, rfl⟩
    have m0 : 0 < m := by omega
    dsimp only
    rw [← hm]
    have kp12 := kp1.trans kp2
    have tabs2 := tabs_kept tabs pen kp12
    clear hm x0 x1 tabs pen kp1 kp2 pn1
    refine ⟨_, rfl, _, rfl, _, rfl, b, m, rfl, rfl, by show 5 ≤ sizeLine; decide, fun T1 hT1 => ?_⟩
    have sN := same_new (o := .tup [.str "a", .str "get", .int b, .int (b + m), .int 3]) hT1
    have sb := sN
    have r1 : upd H2 T1 (.tup [.str "a", .str "get", .int b, .int (b + m), .int 3]) T1 = some (.tup (rowV ⟨"a", true, b, some (b + m), some 3⟩)) := upd_same
    clear sN hT1
    generalize upd H2 T1 (.tup [.str "a", .str "get", .int b, .int (b + m), .int 3]) = G101 at sb  r1 ⊢
    refine ⟨_, rfl, _, rfl, _, rfl, b, m, rfl, rfl, by show 5 ≤ sizeLine; decide, fun T2 hT2 => ?_⟩
    have sN := same_new (o := .tup [.str "b", .str "get", .int b, .int (b + m), .int 3]) hT2
    have r1 := sN _ _ r1
    have sb := sb.trans sN
    have r2 : upd G101 T2 (.tup [.str "b", .str "get", .int b, .int (b + m), .int 3]) T2 = some (.tup (rowV ⟨"b", true, b, some (b + m), some 3⟩)) := upd_same
    clear sN hT2
    generalize upd G101 T2 (.tup [.str "b", .str "get", .int b, .int (b + m), .int 3]) = G102 at sb r1 r2 ⊢
    refine ⟨_, rfl, _, rfl, _, rfl, b, m, rfl, rfl, by show 5 ≤ sizeLine; decide, fun T3 hT3 => ?_⟩
    have sN := same_new (o := .tup [.str "a", .str "get", .int b, .int (b + m), .non]) hT3
    have r1 := sN _ _ r1
    have r2 := sN _ _ r2
    have sb := sb.trans sN
    have r3 : upd G102 T3 (.tup [.str "a", .str "get", .int b, .int (b + m), .non]) T3 = some (.tup (rowV ⟨"a", true, b, some (b + m), none⟩)) := upd_same
    clear sN hT3
    generalize upd G102 T3 (.tup [.str "a", .str "get", .int b, .int (b + m), .non]) = G103 at sb r1 r2 r3 ⊢
    refine ⟨by show 3 ≤ sizeLine; decide, fun L1 hL1 => ?_⟩
    have sN := same_new (o := .lst [.ref T1, .ref T2, .ref T3]) hL1
    have r1 := sN _ _ r1
    have r2 := sN _ _ r2
    have r3 := sN _ _ r3
    have sb := sb.trans sN
    have lL1 : upd G103 L1 (.lst [.ref T1, .ref T2, .ref T3]) L1 = some (.lst [.ref T1, .ref T2, .ref T3]) := upd_same
    clear sN hL1
    generalize upd G103 L1 (.lst [.ref T1, .ref T2, .ref T3]) = G104 at sb r1 r2 r3 lL1 ⊢
    refine ⟨.ref L1, rfl, _, rfl, _, rfl, _, rfl, b, m, rfl, rfl, by show 5 ≤ sizeLine; decide, fun T4 hT4 => ?_⟩
    have sN := same_new (o := .tup [.str "a", .str "get", .int b, .int (b + m), .int 4]) hT4
    have r1 := sN _ _ r1
    have r2 := sN _ _ r2
    have r3 := sN _ _ r3
    have lL1 := sN _ _ lL1
    have sb := sb.trans sN
    have r4 : upd G104 T4 (.tup [.str "a", .str "get", .int b, .int (b + m), .int 4]) T4 = some (.tup (rowV ⟨"a", true, b, some (b + m), some 4⟩)) := upd_same
    clear sN hT4
    generalize upd G104 T4 (.tup [.str "a", .str "get", .int b, .int (b + m), .int 4]) = G105 at sb r1 r2 r3 lL1 r4 ⊢
    refine ⟨_, rfl, _, rfl, _, rfl, b, m, rfl, rfl, _, 1, rfl, rfl, by show 5 ≤ sizeLine; decide, fun T5 hT5 => ?_⟩
    have sN := same_new (o := .tup [.str "a", .str "get", .int b, .int (b + m + 1), .int 3]) hT5
    have r1 := sN _ _ r1
    have r2 := sN _ _ r2
    have r3 := sN _ _ r3
    have lL1 := sN _ _ lL1
    have r4 := sN _ _ r4
    have sb := sb.trans sN
    have r5 : upd G105 T5 (.tup [.str "a", .str "get", .int b, .int (b + m + 1), .int 3]) T5 = some (.tup (rowV ⟨"a", true, b, some (b + m + 1), some 3⟩)) := upd_same
    clear sN hT5
    generalize upd G105 T5 (.tup [.str "a", .str "get", .int b, .int (b + m + 1), .int 3]) = G106 at sb r1 r2 r3 lL1 r4 r5 ⊢
    refine ⟨_, rfl, _, rfl, _, rfl, b, m, rfl, rfl, by show 5 ≤ sizeLine; decide, fun T6 hT6 => ?_⟩
    have sN := same_new (o := .tup [.str "a", .str "put", .int b, .int (b + m), .non]) hT6
    have r1 := sN _ _ r1
    have r2 := sN _ _ r2
    have r3 := sN _ _ r3
    have lL1 := sN _ _ lL1
    have r4 := sN _ _ r4
    have r5 := sN _ _ r5
    have sb := sb.trans sN
    have r6 : upd G106 T6 (.tup [.str "a", .str "put", .int b, .int (b + m), .non]) T6 = some (.tup (rowV ⟨"a", false, b, some (b + m), none⟩)) := upd_same
    clear sN hT6
    generalize upd G106 T6 (.tup [.str "a", .str "put", .int b, .int (b + m), .non]) = G107 at sb r1 r2 r3 lL1 r4 r5 r6 ⊢
    refine ⟨by show 3 ≤ sizeLine; decide, fun L2 hL2 => ?_⟩
    have sN := same_new (o := .lst [.ref T4, .ref T5, .ref T6]) hL2
    have r1 := sN _ _ r1
    have r2 := sN _ _ r2
    have r3 := sN _ _ r3
    have lL1 := sN _ _ lL1
    have r4 := sN _ _ r4
    have r5 := sN _ _ r5
    have r6 := sN _ _ r6
    have sb := sb.trans sN
    have lL2 : upd G107 L2 (.lst [.ref T4, .ref T5, .ref T6]) L2 = some (.lst [.ref T4, .ref T5, .ref T6]) := upd_same
    clear sN hL2
    generalize upd G107 L2 (.lst [.ref T4, .ref T5, .ref T6]) = G108 at sb r1 r2 r3 lL1 r4 r5 r6 lL2 ⊢
    refine ⟨L1, L2, _, _, rfl, rfl, lL1, lL2, by show 6 ≤ sizeLine; decide, fun L3 hL3 => ?_⟩
    have sN := same_new (o := .lst ([.ref T1, .ref T2, .ref T3] ++ [.ref T4, .ref T5, .ref T6])) hL3
    have r1 := sN _ _ r1
    have r2 := sN _ _ r2
    have r3 := sN _ _ r3
    have lL1 := sN _ _ lL1
    have r4 := sN _ _ r4
    have r5 := sN _ _ r5
    have r6 := sN _ _ r6
    have lL2 := sN _ _ lL2
    have sb := sb.trans sN
    have lL3 : upd G108 L3 (.lst ([.ref T1, .ref T2, .ref T3] ++ [.ref T4, .ref T5, .ref T6])) L3 = some (.lst [.ref T1, .ref T2, .ref T3, .ref T4, .ref T5, .ref T6]) := upd_same
    clear sN hL3
    generalize upd G108 L3 (.lst ([.ref T1, .ref T2, .ref T3] ++ [.ref T4, .ref T5, .ref T6])) = G109 at sb r1 r2 r3 lL1 r4 r5 r6 lL2 lL3 ⊢
    refine ⟨.ref L3, rfl, _, rfl, by show 5 ≤ sizeLine; decide, fun T7 hT7 => ?_⟩
    have sN := same_new (o := .tup [.str "a", .str "get", .int b, .non, .non]) hT7
    have r1 := sN _ _ r1
    have r2 := sN _ _ r2
    have r3 := sN _ _ r3
    have lL1 := sN _ _ lL1
    have r4 := sN _ _ r4
    have r5 := sN _ _ r5
    have r6 := sN _ _ r6
    have lL2 := sN _ _ lL2
    have lL3 := sN _ _ lL3
    have sb := sb.trans sN
    have r7 : upd G109 T7 (.tup [.str "a", .str "get", .int b, .non, .non]) T7 = some (.tup (rowV ⟨"a", true, b, none, none⟩)) := upd_same
    clear sN hT7
    generalize upd G109 T7 (.tup [.str "a", .str "get", .int b, .non, .non]) = G110 at sb r1 r2 r3 lL1 r4 r5 r6 lL2 lL3 r7 ⊢
    refine ⟨_, rfl, b, 1, rfl, rfl, _, rfl, _, rfl, b, m, rfl, rfl, _, 1, rfl, rfl, by show 5 ≤ sizeLine; decide, fun T8 hT8 => ?_⟩
    have sN := same_new (o := .tup [.str "a", .str "get", .int (b + 1), .int (b + m + 1), .int 3]) hT8
    have r1 := sN _ _ r1
    have r2 := sN _ _ r2
    have r3 := sN _ _ r3
    have lL1 := sN _ _ lL1
    have r4 := sN _ _ r4
    have r5 := sN _ _ r5
    have r6 := sN _ _ r6
    have lL2 := sN _ _ lL2
    have lL3 := sN _ _ lL3
    have r7 := sN _ _ r7
    have sb := sb.trans sN
    have r8 : upd G110 T8 (.tup [.str "a", .str "get", .int (b + 1), .int (b + m + 1), .int 3]) T8 = some (.tup (rowV ⟨"a", true, (b + 1), some (b + m + 1), some 3⟩)) := upd_same
    clear sN hT8
    generalize upd G110 T8 (.tup [.str "a", .str "get", .int (b + 1), .int (b + m + 1), .int 3]) = G111 at sb r1 r2 r3 lL1 r4 r5 r6 lL2 lL3 r7 r8 ⊢
    refine ⟨_, rfl, by show 5 ≤ sizeLine; decide, fun T9 hT9 => ?_⟩
    have sN := same_new (o := .tup [.str "a", .str "put", .int b, .non, .non]) hT9
    have r1 := sN _ _ r1
    have r2 := sN _ _ r2
    have r3 := sN _ _ r3
    have lL1 := sN _ _ lL1
    have r4 := sN _ _ r4
    have r5 := sN _ _ r5
    have r6 := sN _ _ r6
    have lL2 := sN _ _ lL2
    have lL3 := sN _ _ lL3
    have r7 := sN _ _ r7
    have r8 := sN _ _ r8
    have sb := sb.trans sN
    have r9 : upd G111 T9 (.tup [.str "a", .str "put", .int b, .non, .non]) T9 = some (.tup (rowV ⟨"a", false, b, none, none⟩)) := upd_same
    clear sN hT9
    generalize upd G111 T9 (.tup [.str "a", .str "put", .int b, .non, .non]) = G112 at sb r1 r2 r3 lL1 r4 r5 r6 lL2 lL3 r7 r8 r9 ⊢
    refine ⟨by show 3 ≤ sizeLine; decide, fun L4 hL4 => ?_⟩
    have sN := same_new (o := .lst [.ref T7, .ref T8, .ref T9]) hL4
    have r1 := sN _ _ r1
    have r2 := sN _ _ r2
    have r3 := sN _ _ r3
    have lL1 := sN _ _ lL1
    have r4 := sN _ _ r4
    have r5 := sN _ _ r5
    have r6 := sN _ _ r6
    have lL2 := sN _ _ lL2
    have lL3 := sN _ _ lL3
    have r7 := sN _ _ r7
    have r8 := sN _ _ r8
    have r9 := sN _ _ r9
    have sb := sb.trans sN
    have lL4 : upd G112 L4 (.lst [.ref T7, .ref T8, .ref T9]) L4 = some (.lst [.ref T7, .ref T8, .ref T9]) := upd_same
    clear sN hL4
    generalize upd G112 L4 (.lst [.ref T7, .ref T8, .ref T9]) = G113 at sb r1 r2 r3 lL1 r4 r5 r6 lL2 lL3 r7 r8 r9 lL4 ⊢
    refine ⟨L3, L4, _, _, rfl, rfl, lL3, lL4, by show 9 ≤ sizeLine; decide, fun L5 hL5 => ?_⟩
    have sN := same_new (o := .lst ([.ref T1, .ref T2, .ref T3, .ref T4, .ref T5, .ref T6] ++ [.ref T7, .ref T8, .ref T9])) hL5
    have r1 := sN _ _ r1
    have r2 := sN _ _ r2
    have r3 := sN _ _ r3
    have lL1 := sN _ _ lL1
    have r4 := sN _ _ r4
    have r5 := sN _ _ r5
    have r6 := sN _ _ r6
    have lL2 := sN _ _ lL2
    have lL3 := sN _ _ lL3
    have r7 := sN _ _ r7
    have r8 := sN _ _ r8
    have r9 := sN _ _ r9
    have lL4 := sN _ _ lL4
    have sb := sb.trans sN
    have lL5 : upd G113 L5 (.lst ([.ref T1, .ref T2, .ref T3, .ref T4, .ref T5, .ref T6] ++ [.ref T7, .ref T8, .ref T9])) L5 = some (.lst [.ref T1, .ref T2, .ref T3, .ref T4, .ref T5, .ref T6, .ref T7, .ref T8, .ref T9]) := upd_same
    clear sN hL5
    generalize upd G113 L5 (.lst ([.ref T1, .ref T2, .ref T3, .ref T4, .ref T5, .ref T6] ++ [.ref T7, .ref T8, .ref T9])) = G114 at sb r1 r2 r3 lL1 r4 r5 r6 lL2 lL3 r7 r8 r9 lL4 lL5 ⊢
    have rowsA : RowsAt G114 L5 (rowsU b m) := by
      refine ⟨[T1, T2, T3, T4, T5, T6, T7, T8, T9], lL5, rfl, fun i q r e1 e2 => ?_⟩
      rcases i with _ | _ | _ | _ | _ | _ | _ | _ | _ | i
      · cases e1; cases e2; exact r1
      · cases e1; cases e2; exact r2
      · cases e1; cases e2; exact r3
      · cases e1; cases e2; exact r4
      · cases e1; cases e2; exact r5
      · cases e1; cases e2; exact r6
      · cases e1; cases e2; exact r7
      · cases e1; cases e2; exact r8
      · cases e1; cases e2; exact r9
      · cases e1
    have pnA := pn2.mono sb (Nat.le_refl _)
    have tabsA := tabs_same tabs2 sb
    clear r1 r2 r3 lL1 r4 r5 r6 lL2 lL3 r7 r8 r9 lL4 lL5 sb pn2 tabs2
    generalize G114 = HA at rowsA pnA tabsA ⊢
    obtain ⟨ps, ha, lp, hp⟩ := id rowsA
    have okU := rowsU_ok b0 m0
    generalize rowsU b m = rs at rowsA lp hp okU
    have shp : ∀ r ∈ rs, SeqAt.shaped (rowD r) = true := fun r m => row_shaped ((okU r m).2.elim .inl fun z => .inr (.inl z))
    have shl : ∀ r ∈ rs, r.c.length ≤ 1000 := fun r m => by rcases (okU r m).2 with z | z <;> rw [z] <;> decide +kernel
    -- each with each
    refine ⟨.ref L5, rfl, L5, rfl, ⟨_, SqL.of ha⟩, ?_⟩
    refine for_it (walk_list (K := K) (a := L5) (xs := ps.map V.ref)) (fun i σ H' => ∃ x4 x5, σ = [some (.ref p), some (.int b), some (.int m), some (.ref L5), x4, x5, none, none] ∧ Same HA H') ⟨_, _, rfl, Same.refl _⟩ (fun i σ H' _ ⟨_, _, _, s'⟩ => SqL.of (s' _ _ ha)) ?_ ?_
    · rintro i x σ H1 H3 hi ⟨x4, x5, rfl, t1⟩ ⟨rfl, hx⟩
      have hi2 : i < ps.length := by rw [List.length_map] at hi; exact hi
      have hi3 : i < rs.length := by omega
      have ep : ps[i]? = some ps[i] := List.getElem?_eq_getElem hi2
      have er : rs[i]? = some rs[i] := List.getElem?_eq_getElem hi3
      have ex : x = .ref ps[i] := by
        rw [List.getElem?_map, ep] at hx
        exact (Option.some.inj hx).symm
      subst ex
      have mr : rs[i] ∈ rs := List.getElem_mem hi3
      have rAt : ∀ {H'}, Same HA H' → RowAt H' ps[i] rs[i] := fun s' => s' _ _ (hp i _ _ ep er)
      generalize rs[i] = r at rAt mr
      generalize ps[i] = q1 at rAt
      refine nx_go ?_
      refine ⟨.ref L5, rfl, L5, rfl, ⟨_, SqL.of (t1 _ _ ha)⟩, ?_⟩
      refine for_it (walk_list (K := K) (a := L5) (xs := ps.map V.ref)) (fun i σ H' => ∃ x5, σ = [some (.ref p), some (.int b), some (.int m), some (.ref L5), some (.ref q1), x5, none, none] ∧ Same HA H') ⟨_, rfl, t1⟩ (fun i σ H' _ ⟨_, _, s'⟩ => SqL.of (s' _ _ ha)) ?_ ?_
      · rintro k x σ H4 H5 hk ⟨x5, rfl, t2⟩ ⟨rfl, hx⟩
        have hk2 : k < ps.length := by rw [List.length_map] at hk; exact hk
        have hk3 : k < rs.length := by omega
        have ep' : ps[k]? = some ps[k] := List.getElem?_eq_getElem hk2
        have er' : rs[k]? = some rs[k] := List.getElem?_eq_getElem hk3
        have ex : x = .ref ps[k] := by
          rw [List.getElem?_map, ep'] at hx
          exact (Option.some.inj hx).symm
        subst ex
        have ms : rs[k] ∈ rs := List.getElem_mem hk3
        have oAt : ∀ {H'}, Same HA H' → RowAt H' ps[k] rs[k] := fun s' => s' _ _ (hp k _ _ ep' er')
        generalize rs[k] = s2 at oAt ms
        generalize ps[k] = q2 at oAt
        refine nx_go ?_
        refine if_noL (fun H' => Same HA H') (fun Qb z => ?_) (fun H9 t9 => ⟨_, rfl, t9⟩)
        refine ⟨.ref q1, rfl, q1, r, rfl, rAt t2, (okU r mr).1, shl r mr, fun y1 H6 hy1 s6 a1 => ?_⟩
        refine ⟨.ref q2, rfl, q2, s2, rfl, oAt (t2.trans s6), (okU s2 ms).1, shl s2 ms, fun y2 H7 hy2 s7 a2 => eqA_go A AF.nf (a1.mono s7) a2 ?_⟩
        have t7 := (t2.trans s6).trans s7
        refine ⟨.ref q1, rfl, .ref q2, rfl, rowD r, rowD s2, row_dp (rAt t7), row_dp (oAt t7), shp r mr, shp s2 ms, rfl, false, ?_, iteF' ?_⟩
        · rw [eqv_row]
          cases decide (r = s2) <;> rfl
        refine ⟨.ref q1, rfl, q1, r, rfl, rAt t7, (okU r mr).1, shl r mr, fun y3 H8 hy3 s8 a3 => ?_⟩
        refine ⟨.ref q2, rfl, q2, s2, rfl, oAt (t7.trans s8), (okU s2 ms).1, shl s2 ms, fun y4 H9 hy4 s9 a4 => eqA_go A AF.nf (a3.mono s9) a4 ?_⟩
        have t9 := (t7.trans s8).trans s9
        refine ⟨.ref q1, rfl, .ref q2, rfl, rowD r, rowD s2, row_dp (rAt t9), row_dp (oAt t9), shp r mr, shp s2 ms, rfl, false, ?_, z _ t9⟩
        rw [eqv_row]
        cases decide (r = s2) <;> rfl
      · rintro σ H4 ⟨x5, rfl, t2⟩
        exact ⟨_, _, rfl, t2⟩
    rintro σ H1 ⟨x4, x5, rfl, t1⟩
    -- one that is plain
    have rpo : (⟨"a", true, b, none, none⟩ : Row).Ok := row_ok (.inl rfl) b0 (fun x z => nomatch z) (fun x z => nomatch z)
    have rqo : (⟨"a", true, b, some (b + 1), none⟩ : Row).Ok := row_ok (.inl rfl) b0 (fun x z => by cases z; omega) (fun x z => nomatch z)
    have la : ("a" : Str).length ≤ 1000 := by decide +kernel
    refine ⟨.int b, rfl, fun PL dx hx hdx ne => mk_row (r := ⟨"a", true, b, none, none⟩) rpo la hx hdx ne fun H3 s3 ask => ⟨rfl, ?_⟩⟩
    have t3 := t1.trans s3
    refine nx_go ?_
    dsimp only
    refine if_no (fun H' => Same H3 H') (fun Qb z => ?_) (fun H4 s4 => ?_)
    · refine ⟨.ref PL, rfl, .int b, rfl, rfl, rfl, fun y dy hy hdy ney => mk_row (r := ⟨"a", true, b, none, none⟩) rpo la hy hdy ney fun H5 s5 ask2 => ⟨rfl, eqA_go A AF.nf (ask.mono s5) ask2 ⟨_, rfl, ?_⟩⟩⟩
      rw [decide_eq_true rfl]
      refine iteF' ?_
      obtain ⟨dx5, hx5⟩ := ask.mono s5
      exact ⟨.ref PL, rfl, PL, C, dx5, flds _, .non, rfl, hx5, A.cl, A.ne, rfl, rfl, false, rfl, iteF' ⟨.ref PL, rfl, PL, C, dx5, flds _, .non, rfl, hx5, A.cl, A.nt, rfl, rfl, false, rfl, z _ s5⟩⟩
    refine if_no (fun H' => Same H3 H') (fun Qb z => ?_) (fun H5 s5 => ?_)
    · refine ⟨.int b, rfl, _, rfl, b, 1, rfl, rfl, fun y dy hy hdy ney => mk_row (r := ⟨"a", true, b, some (b + 1), none⟩) rqo la hy hdy ney fun H5 s5 ask2 => ⟨rfl, ?_⟩⟩
      refine ⟨.int b, rfl, _, rfl, b, 1, rfl, rfl, rfl, rfl, fun y2 dy2 hy2 hdy2 ney2 => mk_row (r := ⟨"a", true, b, some (b + 1), none⟩) rqo la hy2 hdy2 ney2 fun H6 s6 ask3 => ⟨rfl, eqA_go A AF.nf (ask2.mono s6) ask3 ⟨_, rfl, ?_⟩⟩⟩
      rw [decide_eq_true rfl]
      exact z _ ((s4.trans s5).trans s6)
    have pn5 := pnA.mono (t3.trans s5) (Nat.le_refl _)
    have tabs5 := tabs_same tabsA (t3.trans s5)
    have ask5 := ask.mono s5
    clear pnA tabsA t1 t3 s3 s4 s5 ask rowsA ha hp okU shp shl
    -- what is odd
    refine ⟨.ref p, rfl, .int b, rfl, by show 5 ≤ sizeLine; decide, fun T5 hT5 => ⟨.ref PL, rfl, by show 1 ≤ sizeLine; decide, fun LP hLP => fun DD hDD => ⟨by show 6 ≤ sizeLine; decide, fun LO hLO => ?_⟩⟩⟩
    have sT := same_new (o := .tup [.str "a", .str "get", .int b, .non, .non]) hT5
    have fT : upd H5 T5 (.tup [.str "a", .str "get", .int b, .non, .non]) T5 = some (.tup [.str "a", .str "get", .int b, .non, .non]) := upd_same
    generalize upd H5 T5 (.tup [.str "a", .str "get", .int b, .non, .non]) = G1 at sT fT hLP hDD hLO ⊢
    have sL := same_new (o := .lst [.ref PL]) hLP
    have fL : upd G1 LP (.lst [.ref PL]) LP = some (.lst [.ref PL]) := upd_same
    generalize upd G1 LP (.lst [.ref PL]) = G2 at sL fL hDD hLO ⊢
    have sD := same_new (o := .dK []) hDD
    have fD : upd G2 DD (.dK []) DD = some (.dK []) := upd_same
    generalize upd G2 DD (.dK []) = G3 at sD fD hLO ⊢
    have sO := same_new (o := .lst [.non, .int 0, .str "a", .ref T5, .ref LP, .ref DD]) hLO
    have fO : upd G3 LO (.lst [.non, .int 0, .str "a", .ref T5, .ref LP, .ref DD]) LO = some (.lst [.non, .int 0, .str "a", .ref T5, .ref LP, .ref DD]) := upd_same
    generalize upd G3 LO (.lst [.non, .int 0, .str "a", .ref T5, .ref LP, .ref DD]) = G4 at sO fO ⊢
    have sG : Same H5 G4 := sT.trans (sL.trans (sD.trans sO))
    have pnG := pn5.mono sG (Nat.le_refl _)
    have tabsG := tabs_same tabs5 sG
    have askG := ask5.mono sG
    obtain ⟨at_, gr, hpp, _⟩ := pnG.ex
    have nep : ∀ {a : Addr} {o : HO}, G4 a = some o → (∀ xs, o ≠ .lst xs) → a ≠ p := fun {a o} h1 h2 z => by
      rw [z, hpp] at h1
      exact h2 _ (Option.some.inj h1).symm
    have gT5 := (sL.trans (sD.trans sO)) _ _ fT
    have gLP := (sD.trans sO) _ _ fL
    have gDD := sO _ _ fD
    have nLP : LP ≠ p := fun z => by
      rw [z, hpp] at gLP
      cases gLP
    have nLO : LO ≠ p := fun z => by
      rw [z, hpp] at fO
      cases fO
    refine ⟨p, c, LO, cells, _, _, rfl, pnG, by omega, fO, nLO, by show 0 < 6; decide, by show 6 ≤ 100; decide, fun j x H6 ex pn6 kp6 => ?_⟩
    have tabs6 := tabs_kept tabsG pnG kp6
    have ask6 : AskAt C H6 PL ⟨"a", true, b, none, none⟩ := by
      obtain ⟨dx, h⟩ := id askG
      exact ⟨dx, kp6 _ _ (nep h fun _ z => nomatch z) h⟩
    have odd : ∃ t, PySem.W.notFirst K C t = true ∧ PySem.W.kitOne K t (.ref C) = some false ∧ ∀ H', LamX.ExtN H6 H' → TyOf K H' x t := by
      rcases j with _ | _ | _ | _ | _ | _ | j
      · cases ex
        exact ⟨_, AH.nfs "NoneType" (by simp), A.no "NoneType" (by simp), fun H' _ => .non⟩
      · cases ex
        exact ⟨_, AH.nfs "int" (by simp), A.no "int" (by simp), fun H' _ => .int _⟩
      · cases ex
        exact ⟨_, AH.nfs "str" (by simp), A.no "str" (by simp), fun H' _ => .str _⟩
      · cases ex
        exact ⟨_, AH.nfs "tuple" (by simp), A.no "tuple" (by simp), fun H' e => .tup (e _ _ (kp6 _ _ (nep gT5 fun _ z => nomatch z) gT5) fun _ z => nomatch z)⟩
      · cases ex
        exact ⟨_, AH.nfs "list" (by simp), A.no "list" (by simp), fun H' e => .lst (e _ _ (kp6 _ _ nLP gLP) fun _ z => nomatch z)⟩
      · cases ex
        exact ⟨_, AH.nfs "dict" (by simp), A.no "dict" (by simp), fun H' e => .dK (e _ _ (kp6 _ _ (nep gDD fun _ z => nomatch z) gDD) fun _ z => nomatch z)⟩
      · cases ex
    obtain ⟨t, nf, kn, ty⟩ := odd
    refine nx_go ?_
    refine ⟨.ref PL, rfl, x, rfl, eqA_odd ask6 (ty _ (LamX.ExtN.refl _)) nf kn ⟨true, rfl, iteT' ?_⟩⟩
    refine ⟨.ref PL, rfl, x, rfl, eqA_odd ask6 (ty _ (LamX.ExtN.refl _)) nf kn ⟨false, rfl, true, rfl, iteT' ?_⟩⟩
    refine ⟨tabs6, fun H7 x7 T7 Q' k => ?_⟩
    obtain ⟨dx6, hx6⟩ := ask6
    have hx7 := x7 _ _ hx6 fun _ z => nomatch z
    refine ⟨.ref PL, rfl, PL, dx6, flds _, rfl, hx7, rfl, x, rfl, PL, _, x, rfl, ⟨dx6, hx7⟩, .inr ⟨⟨t, .base (ty _ x7), kn⟩, fun d H8 s8 hd => ?_⟩⟩
    refine ⟨d, _, rfl, hd, .inl ⟨rfl, .str "other", .str "other", rfl, .str _, ⟨rfl, by decide +kernel, by decide⟩, fun tt H9 s9 e9 => ?_⟩⟩
    refine ⟨by show 2 ≤ sizeLine; decide, fun T2 hT2 => ?_⟩
    have sF := (s8.trans s9).trans (same_new (o := .tup [.str "ask", .str "'other'"]) hT2)
    refine ⟨.tuple [.str "ask", .str (PyData.str "other").shown], .tuple [.str "ask", .str "'other'"], .tup (SqT.of (same_new hT2 _ _ e9)) (.cons (.str _) (.cons (.str _) .nil)), .tup (SqT.of upd_same) (.cons (.str _) (.cons (.str _) .nil)), by decide +kernel, by decide +kernel, ?_⟩
    rw [show PyData.eqv (.tuple [.str "ask", .str (PyData.str "other").shown]) (.tuple [.str "ask", .str "'other'"]) = true from by decide +kernel]
    exact q _ (((pen_ext pn6 x7).mono sF (Nat.le_refl _)).more (by omega)) (tabs_same T7 sF)
end
end K34
end

section
set_option Elab.async false
set_option linter.all false
set_option maxRecDepth 100000
set_option maxHeartbeats 4000000
/-! what is heard, kept in a list -/
namespace K34
open PySem PySem.Spec PyProof.Rows L2 KZ
/-- all but p and the tables stay -/
def KN (p : Addr) (H H' : Hp) : Prop := ∀ b o, b ≠ p → H b = some o → (∀ ps, o ≠ .tbl ps) → H' b = some o
theorem KN.refl (p : Addr) (H : Hp) : KN p H H := fun _ _ _ h _ => h
theorem KN.trans {p : Addr} {H H1 H2 : Hp} (a : KN p H H1) (b : KN p H1 H2) : KN p H H2 := fun x o hx e n => b x o hx (a x o hx e n) n
theorem KN.same {p : Addr} {H H1 : Hp} (s : Same H H1) : KN p H H1 := fun x o _ e _ => s x o e
theorem KN.kept {p : Addr} {H H1 : Hp} (s : Kept p H H1) : KN p H H1 := fun x o hx e _ => s x o hx e
theorem KN.ext {p : Addr} {H H1 : Hp} (s : LamX.ExtN H H1) : KN p H H1 := fun x o _ e n => s x o e n
/-- a value that stays what it is -/
def St (K : PySem.W.Frag) (p : Addr) (H : Hp) (v : V) (d : PyData) : Prop := ∀ H', KN p H H' → Dv K H' v d
theorem St.mono {K : PySem.W.Frag} {p : Addr} {H H' : Hp} {v : V} {d : PyData} (h : St K p H v d) (k : KN p H H') : St K p H' v d := fun H2 k2 => h H2 (k.trans k2)
theorem st_non {K : PySem.W.Frag} {p : Addr} {H : Hp} : St K p H .non .none := fun _ _ => .non
theorem st_int {K : PySem.W.Frag} {p : Addr} {H : Hp} (i : Int) : St K p H (.int i) (.int i) := fun _ _ => .int i
theorem st_bl {K : PySem.W.Frag} {p : Addr} {H : Hp} (b : Bool) : St K p H (.bl b) (.bool b) := fun _ _ => .bl b
theorem st_str {K : PySem.W.Frag} {p : Addr} {H : Hp} (x : Str) : St K p H (.str x) (.str x) := fun _ _ => .str x
theorem st_lst1 {K : PySem.W.Frag} {p a : Addr} {H : Hp} {v : V} {d : PyData} (hp : a ≠ p) (h : H a = some (.lst [v])) (g : ∀ H', Dv K H' v d) : St K p H (.ref a) (.list [d]) := fun H' k => .lst (SqL.of (k _ _ hp h fun _ z => nomatch z)) (.cons (g H') .nil)
theorem st_tup1 {K : PySem.W.Frag} {p a : Addr} {H : Hp} {v : V} {d : PyData} (hp : a ≠ p) (h : H a = some (.tup [v])) (g : ∀ H', Dv K H' v d) : St K p H (.ref a) (.tuple [d]) := fun H' k => .tup (SqT.of (k _ _ hp h fun _ z => nomatch z)) (.cons (g H') .nil)
/-- tuples of texts -/
def TupsAt (H : Hp) (ts : List Addr) (ds : List (List Str)) : Prop := ts.length = ds.length ∧ ∀ (i : Nat) t d, ts[i]? = some t → ds[i]? = some d → H t = some (.tup (d.map V.str))
def dsD (ds : List (List Str)) : PyData := .list (ds.map fun d => .tuple (d.map PyData.str))
structure Hr (T0 : List (Addr × Str)) (p c : Addr) (cells : List Int) (N : Nat) (HV : Hp) (HL : Addr) (ts : List Addr) (ds : List (List Str)) (H : Hp) : Prop where
  tabs : LamX.Tabs T0 H
  pen : PenAt H p c cells N
  kn : KN p HV H
  hp : HL ≠ p
  hc : HL ≠ c
  nv : ∀ o, HV HL = some o → ∃ ps, o = .tbl ps
  hl : H HL = some (.lst (ts.map V.ref))
  at_ : TupsAt H ts ds
theorem Hr.first {T0 : List (Addr × Str)} {p c : Addr} {cells : List Int} {N : Nat} {HV H1 H2 : Hp} {HL t : Addr} {d : List Str} (tabs : LamX.Tabs T0 H1) (pen : PenAt H1 p c cells N) (kn : KN p HV H1) (s : Same H1 H2) (e : H2 t = some (.tup (d.map V.str))) (hn : H2 HL = none) :
    Hr T0 p c cells N HV HL [t] [d] (upd H2 HL (.lst [.ref t])) := by
  have s2 : Same H1 (upd H2 HL (.lst [.ref t])) := s.trans (same_new hn)
  obtain ⟨np, nc⟩ := (pen.mono s (Nat.le_refl _)).nn hn
  refine ⟨tabs_same tabs s2, pen.mono s2 (Nat.le_refl _), kn.trans (KN.same s2), np, nc, fun o ho => ?_, upd_same, rfl, fun i t' d' e1 e2 => ?_⟩
  · by_cases z : ∃ ps, o = .tbl ps
    · exact z
    · have h1 := kn _ _ np ho fun ps y => z ⟨ps, y⟩
      have h2 := s _ _ h1
      rw [hn] at h2
      cases h2
  · cases i with
    | zero =>
      cases e1
      cases e2
      exact same_new hn _ _ e
    | succ i => cases e1
theorem Hr.step {T0 : List (Addr × Str)} {p c : Addr} {cells : List Int} {N : Nat} {HV H H1 H2 : Hp} {HL t : Addr} {ts : List Addr} {ds : List (List Str)} {d : List Str} (h : Hr T0 p c cells N HV HL ts ds H) (x : LamX.ExtN H H1) (tabs : LamX.Tabs T0 H1) (s : Same H1 H2) (e : H2 t = some (.tup (d.map V.str))) :
    H2 HL = some (.lst (ts.map V.ref)) ∧ Hr T0 p c cells N HV HL (ts ++ [t]) (ds ++ [d]) (upd H2 HL (.lst (ts.map V.ref ++ [.ref t]))) := by
  have hl2 : H2 HL = some (.lst (ts.map V.ref)) := s _ _ (x _ _ h.hl fun _ z => nomatch z)
  have nt : ∀ {a : Addr} {xs : List V}, H2 a = some (.tup xs) → a ≠ HL := fun {a xs} z y => by
    rw [y, hl2] at z
    cases z
  refine ⟨hl2, tabs_lst (tabs_same tabs s) hl2, ((pen_ext h.pen x).mono s (Nat.le_refl _)).upd ⟨h.hp, h.hc⟩, fun b o hb ho n => ?_, h.hp, h.hc, h.nv, by rw [upd_same, List.map_append]; rfl, ?_, fun i t' d' e1 e2 => ?_⟩
  · have nb : b ≠ HL := fun z => by
      obtain ⟨ps, hps⟩ := h.nv o (z ▸ ho)
      exact n ps hps
    rw [upd_ne nb]
    exact s _ _ (x _ _ (h.kn b o hb ho n) n)
  · rw [List.length_append, List.length_append, h.at_.1]
    rfl
  · have h1 := h.at_.1
    by_cases hi : i < ts.length
    · rw [List.getElem?_append_left hi] at e1
      rw [List.getElem?_append_left (by omega)] at e2
      have old := s _ _ (x _ _ (h.at_.2 i t' d' e1 e2) fun _ z => nomatch z)
      rw [upd_ne (nt old)]
      exact old
    · rw [List.getElem?_append_right (by omega)] at e1 e2
      have i0 : i - ts.length = 0 := by
        cases hz : i - ts.length with
        | zero => rfl
        | succ m => rw [hz] at e1; cases e1
      rw [i0] at e1
      rw [show i - ds.length = 0 by omega] at e2
      cases e1
      cases e2
      rw [upd_ne (nt e)]
      exact e
theorem tups_mono {H H' : Hp} {ts : List Addr} {ds : List (List Str)} (s : Same H H') (h : TupsAt H ts ds) : TupsAt H' ts ds := ⟨h.1, fun i t d e1 e2 => s _ _ (h.2 i t d e1 e2)⟩
section
variable {K : PySem.W.Frag} {C cB cT : Addr}
theorem strs_dp {H : Hp} : ∀ d : List Str, DpAll K H (d.map V.str) (d.map PyData.str)
  | [] => .nil
  | x :: d => .cons (.str x) (strs_dp d)
theorem tups_dp {H : Hp} : ∀ {ts : List Addr} {ds : List (List Str)}, TupsAt H ts ds → DpAll K H (ts.map V.ref) (ds.map fun d => .tuple (d.map PyData.str))
  | [], [], _ => .nil
  | t :: ts, d :: ds, h => .cons (.tup (SqT.of (h.2 0 t d rfl rfl)) (strs_dp d)) (tups_dp ⟨by simpa using h.1, fun i t' d' e1 e2 => h.2 (i + 1) t' d' e1 e2⟩)
  | [], _ :: _, h => by cases h.1
  | _ :: _, [], h => by cases h.1
theorem ds_dp {H : Hp} {a : Addr} {ts : List Addr} {ds : List (List Str)} (hl : H a = some (.lst (ts.map V.ref))) (h : TupsAt H ts ds) : Dp K H (.ref a) (dsD ds) := .lst (SqL.of hl) (tups_dp h)
theorem call_reprK {X : Cx} (K : PySem.W.Frag) (hg : X.A.guards = some []) (hu : X.A.units + 64 < cLine) (hb : ModsD X.base) (h : X.K = K := by rfl) : CallR X (.builtin "repr") (rRepr K) := by
  subst h
  exact call_reprD hg hu hb
/-- a part that is told -/
theorem tell_part : ∀ p ∈ (["client", "word", "begun", "ended", "told", "other", "asks"] : List Str), Tell (.str p) := by
  have h : (["client", "word", "begun", "ended", "told", "other", "asks"] : List Str).all (fun p => decide ((PyData.str p).showable = true ∧ (PyData.str p).shown.length ≤ 10000 ∧ (PyData.str p).depth ≤ 40)) = true := by decide +kernel
  intro p m
  have z := List.all_eq_true.mp h p m
  exact of_decide_eq_true (p := (PyData.str p).showable = true ∧ (PyData.str p).shown.length ≤ 10000 ∧ (PyData.str p).depth ≤ 40) z
/-- an ask that is refused is heard -/
theorem heard_bad {H : Hp} {x dx : Addr} {vc vw vb ve vt : V} {dc dw db de dt : PyData} {Q Q' : VK} {p : Str} (hx : H x = none) (hdx : H dx = none) (ne : dx ≠ x) (gc : Dv K H vc dc) (sz : ∀ y, dc = .str y → y.length ≤ 1000) (gw : Dv K H vw dw) (nw : nod dw = true) (sw : SeqAt.shaped dw = true)
    (gb : Dv K H vb db) (ge : Dv K H ve de) (gt : Dv K H vt dt) (hb : bad dc dw db de dt = some p) (hp : p ∈ (["client", "word", "begun", "ended", "told", "other", "asks"] : List Str))
    (go : ∀ t H2, Same H H2 → H2 t = some (.tup (([("ask" : Str), (PyData.str p).shown] : List Str).map V.str)) → Q (.ref t) H2) : spInit K C cB [.ref x, vc, vw, vb, ve, vt] (upd (upd H dx (.own x)) x (.ins C dx [])) Q' (HeardE K cB cT Q) := by
  refine mk_go hx hdx ne gc sz gw nw sw gb ge gt (fun r ok e1 e2 e3 e4 e5 => ?_) fun p' hp' => ?_
  · subst e1 e2 e3 e4 e5
    rw [bad_of ok] at hb
    cases hb
  · rw [hb] at hp'
    cases hp'
    exact fun d H2 s2 hd => ⟨d, _, rfl, hd, .inl ⟨rfl, .str p, .str p, rfl, .str _, tell_part p hp, fun t H3 s3 e3 => go t H3 (s2.trans s3) e3⟩⟩
end
end K34
end

section
set_option Elab.async false
set_option linter.all false
set_option maxRecDepth 100000
set_option maxHeartbeats 4000000
/-! asks that are refused -/
namespace K34
open PySem PySem.Spec PyProof.Rows L2 KZ
abbrev sRR : Stmt := top 32
def askT (p : Str) : List Str := ["ask", (PyData.str p).shown]
def partsS : List Str := ["client", "word", "begun", "ended", "told", "told", "told"]
theorem told_no {d : PyData} (h : d ≠ .none) (c : isCount d = false) (w e : PyData) : toldOk w e d = false := by
  cases d <;> first | exact absurd rfl h | (cases e <;> simp [toldOk, c] <;> simp_all [isCount])
section
variable {P : Program} {w : World} {K : PySem.W.Frag} {mg : Str → Option Value} {base : Heap} {C cO cB cT : Addr}
theorem scRR : FnScope ["well", "client", "word", "begun", "fine", "end", "told", "heard", "due", "part"] ["well"] (defScope sRR) := ⟨rfl, rfl, rfl, by decide +kernel, rfl, by decide +kernel, by decide +kernel⟩
theorem ok_rr (hmd : ModsD base) {f cc Pt : Addr} {fd : FuncData} {T0 : List (Addr × Str)} (F : Fun K "_law_refused_right" "_law_refused_right" sRR f fd) (hcode : fd.code = .ref cc) (LA : LamAt T0 base mg cc Pt ("_law_refused_right" ++ ".<locals>.")) (T : B1 mg) (A : AskC K mg C) (L : LF P w K mg base C)
    (HF : HeardF K mg cO cB cT) (IF : InitF P w K mg base C cB) : FnG P w K mg base CX0 13 f fd ["well"] (spUR T0) := by
  obtain ⟨fO, dO, gO_, GO, kO, bO⟩ := L.one.ex
  obtain ⟨fI, dI, MK, GI, bI5, ⟨ds4, vI4, bI4⟩, ⟨ds3, vI3, bI3⟩, ⟨g1, kb1⟩, ⟨g4, kb4⟩⟩ := IF.ex
  refine okGc F hcode scRR (fun vs H Q E h => ?_) (fun A' outer s0 H vs Q E hgd hr h => ?_)
  · obtain ⟨p, c, cells, n, rfl, _⟩ := h
    rfl
  · obtain ⟨p, c, cells, n, rfl, pen, hn, tabs, q⟩ := h
    have hr12 : Room 12 _ := hr
    have hr2 : Room 2 _ := hr.mono (by decide)
    refine ⟨_, (pss_cons (ps_set (i := 1) scRR.nd rfl (Or.inr rfl) (pe_call GO hr2 (by rfl) gO_ kO bO .nil pass0 (pa_cons (pv 0) (pa_cons (pe_lst (pa_cons pe_non (pa_cons pe_int (pa_cons pe_str (pa_cons pe_str (pa_cons pe_str (pa_cons pe_str (pa_cons pe_str (pa_cons (pe_lst (pa_cons pe_str pa_nil)) (pa_cons pe_bl (pa_cons (pe_tup (pa_cons pe_str pa_nil)) pa_nil))))))))))) pa_nil))))
(pss_cons (ps_set (i := 2) scRR.nd rfl (Or.inr rfl) (pe_call GO hr2 (by rfl) gO_ kO bO .nil pass0 (pa_cons (pv 0) (pa_cons (pe_lst (pa_cons pe_non (pa_cons pe_str (pa_cons pe_str (pa_cons pe_str (pa_cons pe_int (pa_cons (pe_lst (pa_cons pe_str pa_nil)) (pa_cons pe_str pa_nil)))))))) pa_nil))))
(pss_cons (ps_set (i := 3) scRR.nd rfl (Or.inr rfl) (pe_call GO hr2 (by rfl) gO_ kO bO .nil pass0 (pa_cons (pv 0) (pa_cons (pe_lst (pa_cons pe_non (pa_cons (pe_un un_neg pe_int) (pa_cons pe_bl (pa_cons pe_str (pa_cons (pe_lst (pa_cons pe_int pa_nil)) (pa_cons pe_bl pa_nil))))))) pa_nil))))
(pss_cons (ps_set (i := 4) scRR.nd rfl (Or.inr rfl) (pe_call GO hr2 (by rfl) gO_ kO bO .nil pass0 (pa_cons (pv 0) (pa_cons (pe_lst (pa_cons pe_int (pa_cons pe_int (pa_cons pe_int (pa_cons (pe_op op_pow pe_int pe_int) pa_nil))))) pa_nil))))
(pss_cons (ps_set (i := 5) scRR.nd rfl (Or.inr rfl) (pe_call GO hr2 (by rfl) gO_ kO bO .nil pass0 (pa_cons (pv 0) (pa_cons (pe_lst (pa_cons (pv 4) (pa_cons (pe_op op_sub (pv 4) pe_int) (pa_cons pe_str (pa_cons (pe_lst (pa_cons (pe_op op_add (pv 4) pe_int) pa_nil)) (pa_cons pe_bl (pa_cons (pe_un un_neg pe_int) pa_nil))))))) pa_nil))))
(pss_cons (ps_set (i := 6) scRR.nd rfl (Or.inr rfl) (pe_call GO hr2 (by rfl) gO_ kO bO .nil pass0 (pa_cons (pv 0) (pa_cons (pe_lst (pa_cons (pe_un un_neg pe_int) (pa_cons pe_bl (pa_cons pe_str (pa_cons (pe_lst (pa_cons pe_int pa_nil)) (pa_cons pe_bl pa_nil)))))) pa_nil))))
(pss_cons (ps_set (i := 7) scRR.nd rfl (Or.inl rfl) (pe_lst (pa_cons (pe_heard (t := fun E_ => tMake C (spInit K C cB) [] E_ (tCons (tVar 1) (tCons (tVar 2) (tCons (tVar 3) (tCons (tVar 5) (tCons (tVar 6) tNil)))))) HF LA T hmd hgd hr12 (by rfl) rfl (LamX.lamS_by (sc := defScope sRR) (by decide +kernel)) rfl (fun _ _ _ _ _ => rfl) (fun A_ outer_ s_ H_ E_ f_ c_ hr_ => pe_make MK GI (hr_.mono (by decide)) (by rfl) A.mg bI5 .nil (passes_call (takes_of rfl rfl rfl rfl) fun _ _ _ _ z => z) (pa_cons (pv 1) (pa_cons (pv 2) (pa_cons (pv 3) (pa_cons (pv 5) (pa_cons (pv 6) pa_nil))))))) pa_nil)))
(pss_cons (ps_expr (pe_bm PySem.F.plainAttrs_list PySem.F.slot_list_append PySem.F.type_list_append mt_append (pv 7) (pa_cons (pe_heard (t := fun E_ => tMake C (spInit K C cB) [] E_ (tCons (tC (.str "a")) (tCons (tVar 2) (tCons (tVar 3) (tCons (tVar 5) (tCons (tVar 6) tNil)))))) HF LA T hmd hgd hr12 (by rfl) rfl (LamX.lamS_by (sc := defScope sRR) (by decide +kernel)) rfl (fun _ _ _ _ _ => rfl) (fun A_ outer_ s_ H_ E_ f_ c_ hr_ => pe_make MK GI (hr_.mono (by decide)) (by rfl) A.mg bI5 .nil (passes_call (takes_of rfl rfl rfl rfl) fun _ _ _ _ z => z) (pa_cons pe_str (pa_cons (pv 2) (pa_cons (pv 3) (pa_cons (pv 5) (pa_cons (pv 6) pa_nil))))))) pa_nil)))
(pss_cons (ps_expr (pe_bm PySem.F.plainAttrs_list PySem.F.slot_list_append PySem.F.type_list_append mt_append (pv 7) (pa_cons (pe_heard (t := fun E_ => tMake C (spInit K C cB) [] E_ (tCons (tC (.str "abcdefgh")) (tCons (tC (.str "get")) (tCons (tVar 3) (tCons (tVar 5) (tCons (tVar 6) tNil)))))) HF LA T hmd hgd hr12 (by rfl) rfl (LamX.lamS_by (sc := defScope sRR) (by decide +kernel)) rfl (fun _ _ _ _ _ => rfl) (fun A_ outer_ s_ H_ E_ f_ c_ hr_ => pe_make MK GI (hr_.mono (by decide)) (by rfl) A.mg bI5 .nil (passes_call (takes_of rfl rfl rfl rfl) fun _ _ _ _ z => z) (pa_cons pe_str (pa_cons pe_str (pa_cons (pv 3) (pa_cons (pv 5) (pa_cons (pv 6) pa_nil))))))) pa_nil)))
(pss_cons (ps_expr (pe_bm PySem.F.plainAttrs_list PySem.F.slot_list_append PySem.F.type_list_append mt_append (pv 7) (pa_cons (pe_heard (t := fun E_ => tMake C (spInit K C cB) [] E_ (tCons (tC (.str "a")) (tCons (tC (.str "get")) (tCons (tVar 4) (tCons (tVar 5) (tCons (tVar 6) tNil)))))) HF LA T hmd hgd hr12 (by rfl) rfl (LamX.lamS_by (sc := defScope sRR) (by decide +kernel)) rfl (fun _ _ _ _ _ => rfl) (fun A_ outer_ s_ H_ E_ f_ c_ hr_ => pe_make MK GI (hr_.mono (by decide)) (by rfl) A.mg bI5 .nil (passes_call (takes_of rfl rfl rfl rfl) fun _ _ _ _ z => z) (pa_cons pe_str (pa_cons pe_str (pa_cons (pv 4) (pa_cons (pv 5) (pa_cons (pv 6) pa_nil))))))) pa_nil)))
(pss_cons (ps_expr (pe_bm PySem.F.plainAttrs_list PySem.F.slot_list_append PySem.F.type_list_append mt_append (pv 7) (pa_cons (pe_heard (t := fun E_ => tMake C (spInit K C cB) [] E_ (tCons (tC (.str "a")) (tCons (tC (.str "get")) (tCons (tVar 4) (tCons (tOp (rI0 fun i j => V.int (i + j)) (tVar 4) (tC (.int 1))) (tCons (tVar 6) tNil)))))) HF LA T hmd hgd hr12 (by rfl) rfl (LamX.lamS_by (sc := defScope sRR) (by decide +kernel)) rfl (fun _ _ _ _ _ => rfl) (fun A_ outer_ s_ H_ E_ f_ c_ hr_ => pe_make MK GI (hr_.mono (by decide)) (by rfl) A.mg bI5 .nil (passes_call (takes_of rfl rfl rfl rfl) fun _ _ _ _ z => z) (pa_cons pe_str (pa_cons pe_str (pa_cons (pv 4) (pa_cons (pe_op op_add (pv 4) pe_int) (pa_cons (pv 6) pa_nil))))))) pa_nil)))
(pss_cons (ps_expr (pe_bm PySem.F.plainAttrs_list PySem.F.slot_list_append PySem.F.type_list_append mt_append (pv 7) (pa_cons (pe_heard (t := fun E_ => tMake C (spInit K C cB) [] E_ (tCons (tC (.str "a")) (tCons (tC (.str "put")) (tCons (tVar 4) (tCons (tOp (rI0 fun i j => V.int (i + j)) (tVar 4) (tC (.int 1))) (tCons (tC (.int 0)) tNil)))))) HF LA T hmd hgd hr12 (by rfl) rfl (LamX.lamS_by (sc := defScope sRR) (by decide +kernel)) rfl (fun _ _ _ _ _ => rfl) (fun A_ outer_ s_ H_ E_ f_ c_ hr_ => pe_make MK GI (hr_.mono (by decide)) (by rfl) A.mg bI5 .nil (passes_call (takes_of rfl rfl rfl rfl) fun _ _ _ _ z => z) (pa_cons pe_str (pa_cons pe_str (pa_cons (pv 4) (pa_cons (pe_op op_add (pv 4) pe_int) (pa_cons pe_int pa_nil))))))) pa_nil)))
(pss_cons (ps_expr (pe_bm PySem.F.plainAttrs_list PySem.F.slot_list_append PySem.F.type_list_append mt_append (pv 7) (pa_cons (pe_heard (t := fun E_ => tMake C (spInit K C cB) [] E_ (tCons (tC (.str "a")) (tCons (tC (.str "get")) (tCons (tVar 4) (tCons (tC .non) (tCons (tC (.int 0)) tNil)))))) HF LA T hmd hgd hr12 (by rfl) rfl (LamX.lamS_by (sc := defScope sRR) (by decide +kernel)) rfl (fun _ _ _ _ _ => rfl) (fun A_ outer_ s_ H_ E_ f_ c_ hr_ => pe_make MK GI (hr_.mono (by decide)) (by rfl) A.mg bI5 .nil (passes_call (takes_of rfl rfl rfl rfl) fun _ _ _ _ z => z) (pa_cons pe_str (pa_cons pe_str (pa_cons (pv 4) (pa_cons pe_non (pa_cons pe_int pa_nil))))))) pa_nil)))
(pss_cons (ps_expr (pe_bm PySem.F.plainAttrs_list PySem.F.slot_list_append PySem.F.type_list_append mt_append (pv 7) (pa_cons (pe_heard (t := fun E_ => tMake C (spInit K C cB) [] E_ (tCons (tC (.str "a")) (tCons (tC (.str "get")) (tCons (tVar 4) (tCons (tOp (rI0 fun i j => V.int (i + j)) (tVar 4) (tC (.int 1))) (tCons (tC (.int 0)) tNil)))))) HF LA T hmd hgd hr12 (by rfl) rfl (LamX.lamS_by (sc := defScope sRR) (by decide +kernel)) rfl (fun _ _ _ _ _ => rfl) (fun A_ outer_ s_ H_ E_ f_ c_ hr_ => pe_make MK GI (hr_.mono (by decide)) (by rfl) A.mg bI5 .nil (passes_call (takes_of rfl rfl rfl rfl) fun _ _ _ _ z => z) (pa_cons pe_str (pa_cons pe_str (pa_cons (pv 4) (pa_cons (pe_op op_add (pv 4) pe_int) (pa_cons pe_int pa_nil))))))) pa_nil)))
(pss_cons (ps_setLc (i := 8) (own := [("part", 9)]) (g := gName 9) (tt := tYes) (by rfl) scRR.nd rfl rfl (sw_true rfl rfl rfl (by decide +kernel)) (pi_list (pe_lst (pa_cons pe_str (pa_cons pe_str (pa_cons pe_str (pa_cons pe_str (pa_cons pe_str (pa_cons pe_str (pa_cons pe_str pa_nil))))))))) (blkOk_by (own := [("part", 9)]) (N := ["well", "client", "word", "begun", "fine", "end", "told", "heard", "due", "part"]) (sc := defScope sRR) (by decide +kernel)) (fun _ _ _ _ _ => pg_name (i := 9) scRR.nd rfl (Or.inl rfl)) (fun _ _ _ _ _ => pts_nil) (fun _ _ _ _ _ => pe_tup (pa_cons pe_str (pa_cons (pe_callB (call_reprK K hgd hr.units hmd) (by rfl) T.repr (by decide +kernel) (pa_cons (pv 9) pa_nil)) pa_nil))))
(pss_one (ps_ret (pe_cmpR (op_eqD hr.units) (pv 7) (pe_op op_cat (pv 8) (pe_lst (pa_cons (pe_tup (pa_cons pe_str pa_nil)) pa_nil))) (nomark _))))))))))))))))))), ?_⟩
    have sb : Same H H := Same.refl _
    refine ⟨.ref p, rfl, by show 1 ≤ sizeLine; decide, fun A1 hA1 => ?_⟩
    have sN := same_new (o := .lst [.str "a"]) hA1
    have fA1 : upd H A1 (.lst [.str "a"]) A1 = some (.lst [.str "a"]) := upd_same
    have nA1 := (pen.mono sb (Nat.le_refl _)).nn hA1
    have sb := sb.trans sN
    clear sN hA1
    generalize upd H A1 (.lst [.str "a"]) = G2 at sb fA1 ⊢
    refine ⟨by show 1 ≤ sizeLine; decide, fun A3 hA3 => ?_⟩
    have sN := same_new (o := .tup [.str "a"]) hA3
    have fA3 : upd G2 A3 (.tup [.str "a"]) A3 = some (.tup [.str "a"]) := upd_same
    have fA1 := sN _ _ fA1
    have nA3 := (pen.mono sb (Nat.le_refl _)).nn hA3
    have sb := sb.trans sN
    clear sN hA3
    generalize upd G2 A3 (.tup [.str "a"]) = G4 at sb fA1 fA3 ⊢
    refine ⟨by show 10 ≤ sizeLine; decide, fun LO5 hLO5 => ?_⟩
    have sN := same_new (o := .lst [.non, .int 0, .str "", .str "A", .str "a1", .str "abcdefghi", .str "a\n", .ref A1, .bl true, .ref A3]) hLO5
    have fA1 := sN _ _ fA1
    have fA3 := sN _ _ fA3
    have fo : upd G4 LO5 (.lst [.non, .int 0, .str "", .str "A", .str "a1", .str "abcdefghi", .str "a\n", .ref A1, .bl true, .ref A3]) LO5 = some (.lst [.non, .int 0, .str "", .str "A", .str "a1", .str "abcdefghi", .str "a\n", .ref A1, .bl true, .ref A3]) := upd_same
    have no := ((pen.mono sb (Nat.le_refl _)).nn hLO5).1
    have sb := sb.trans sN
    clear sN hLO5
    generalize upd G4 LO5 (.lst [.non, .int 0, .str "", .str "A", .str "a1", .str "abcdefghi", .str "a\n", .ref A1, .bl true, .ref A3]) = G6 at sb fo fA1 fA3 ⊢
    refine ⟨p, c, LO5, cells, _, _, rfl, pen.mono sb (Nat.le_refl _), by omega, fo, no, by show 0 < 10; decide, by show 10 ≤ 100; decide, fun j x1 H7 ex pn kp => ?_⟩
    have tabs := tabs_kept (tabs_same tabs sb) (pen.mono sb (Nat.le_refl _)) kp
    have kn : KN p H H7 := (KN.same sb).trans (KN.kept kp)
    have fA1 := kp _ _ nA1.1 fA1
    have fA3 := kp _ _ nA3.1 fA3
    obtain ⟨d1, c1, c2, st1⟩ : ∃ d, isName d = false ∧ (∀ y, d = .str y → y.length ≤ 1000) ∧ St K p H7 x1 d := by
      rcases j with _ | _ | _ | _ | _ | _ | _ | _ | _ | _ | j
      · cases ex
        exact ⟨_, by decide +kernel, fun y e => by first | (cases e; done) | (cases e; decide +kernel), st_non⟩
      · cases ex
        exact ⟨_, by decide +kernel, fun y e => by first | (cases e; done) | (cases e; decide +kernel), st_int _⟩
      · cases ex
        exact ⟨_, by decide +kernel, fun y e => by first | (cases e; done) | (cases e; decide +kernel), st_str _⟩
      · cases ex
        exact ⟨_, by decide +kernel, fun y e => by first | (cases e; done) | (cases e; decide +kernel), st_str _⟩
      · cases ex
        exact ⟨_, by decide +kernel, fun y e => by first | (cases e; done) | (cases e; decide +kernel), st_str _⟩
      · cases ex
        exact ⟨_, by decide +kernel, fun y e => by first | (cases e; done) | (cases e; decide +kernel), st_str _⟩
      · cases ex
        exact ⟨_, by decide +kernel, fun y e => by first | (cases e; done) | (cases e; decide +kernel), st_str _⟩
      · cases ex
        exact ⟨_, by decide +kernel, fun y e => by first | (cases e; done) | (cases e; decide +kernel), st_lst1 nA1.1 fA1 fun _ => .str _⟩
      · cases ex
        exact ⟨_, by decide +kernel, fun y e => by first | (cases e; done) | (cases e; decide +kernel), st_bl _⟩
      · cases ex
        exact ⟨_, by decide +kernel, fun y e => by first | (cases e; done) | (cases e; decide +kernel), st_tup1 nA3.1 fA3 fun _ => .str _⟩
      · cases ex
    have pen := pn
    clear pn kp sb fo no ex kn fA1 nA1 fA3 nA3
    have sb : Same H7 H7 := Same.refl _
    refine ⟨.ref p, rfl, by show 1 ≤ sizeLine; decide, fun A8 hA8 => ?_⟩
    have sN := same_new (o := .lst [.str "put"]) hA8
    have fA8 : upd H7 A8 (.lst [.str "put"]) A8 = some (.lst [.str "put"]) := upd_same
    have nA8 := (pen.mono sb (Nat.le_refl _)).nn hA8
    have sb := sb.trans sN
    clear sN hA8
    generalize upd H7 A8 (.lst [.str "put"]) = G9 at sb fA8 ⊢
    refine ⟨by show 7 ≤ sizeLine; decide, fun LO10 hLO10 => ?_⟩
    have sN := same_new (o := .lst [.non, .str "puts", .str "Get", .str "", .int 0, .ref A8, .str "put "]) hLO10
    have fA8 := sN _ _ fA8
    have fo : upd G9 LO10 (.lst [.non, .str "puts", .str "Get", .str "", .int 0, .ref A8, .str "put "]) LO10 = some (.lst [.non, .str "puts", .str "Get", .str "", .int 0, .ref A8, .str "put "]) := upd_same
    have no := ((pen.mono sb (Nat.le_refl _)).nn hLO10).1
    have sb := sb.trans sN
    clear sN hLO10
    generalize upd G9 LO10 (.lst [.non, .str "puts", .str "Get", .str "", .int 0, .ref A8, .str "put "]) = G11 at sb fo fA8 ⊢
    refine ⟨p, c, LO10, cells, _, _, rfl, pen.mono sb (Nat.le_refl _), by omega, fo, no, by show 0 < 7; decide, by show 7 ≤ 100; decide, fun j x2 H12 ex pn kp => ?_⟩
    have tabs := tabs_kept (tabs_same tabs sb) (pen.mono sb (Nat.le_refl _)) kp
    have kn : KN p H7 H12 := (KN.same sb).trans (KN.kept kp)
    have st1 := st1.mono kn
    have fA8 := kp _ _ nA8.1 fA8
    obtain ⟨d2, w1, w2, w3, st2⟩ : ∃ d, wordOk d = false ∧ nod d = true ∧ SeqAt.shaped d = true ∧ St K p H12 x2 d := by
      rcases j with _ | _ | _ | _ | _ | _ | _ | j
      · cases ex
        exact ⟨_, by decide +kernel, by decide +kernel, by decide +kernel, st_non⟩
      · cases ex
        exact ⟨_, by decide +kernel, by decide +kernel, by decide +kernel, st_str _⟩
      · cases ex
        exact ⟨_, by decide +kernel, by decide +kernel, by decide +kernel, st_str _⟩
      · cases ex
        exact ⟨_, by decide +kernel, by decide +kernel, by decide +kernel, st_str _⟩
      · cases ex
        exact ⟨_, by decide +kernel, by decide +kernel, by decide +kernel, st_int _⟩
      · cases ex
        exact ⟨_, by decide +kernel, by decide +kernel, by decide +kernel, st_lst1 nA8.1 fA8 fun _ => .str _⟩
      · cases ex
        exact ⟨_, by decide +kernel, by decide +kernel, by decide +kernel, st_str _⟩
      · cases ex
    have pen := pn
    clear pn kp sb fo no ex kn fA8 nA8
    have sb : Same H12 H12 := Same.refl _
    refine ⟨.ref p, rfl, 1, rfl, by show 1 ≤ sizeLine; decide, fun A13 hA13 => ?_⟩
    have sN := same_new (o := .lst [.int 0]) hA13
    have fA13 : upd H12 A13 (.lst [.int 0]) A13 = some (.lst [.int 0]) := upd_same
    have nA13 := (pen.mono sb (Nat.le_refl _)).nn hA13
    have sb := sb.trans sN
    clear sN hA13
    generalize upd H12 A13 (.lst [.int 0]) = G14 at sb fA13 ⊢
    refine ⟨by show 6 ≤ sizeLine; decide, fun LO15 hLO15 => ?_⟩
    have sN := same_new (o := .lst [.non, .int (-1), .bl true, .str "0", .ref A13, .bl false]) hLO15
    have fA13 := sN _ _ fA13
    have fo : upd G14 LO15 (.lst [.non, .int (-1), .bl true, .str "0", .ref A13, .bl false]) LO15 = some (.lst [.non, .int (-1), .bl true, .str "0", .ref A13, .bl false]) := upd_same
    have no := ((pen.mono sb (Nat.le_refl _)).nn hLO15).1
    have sb := sb.trans sN
    clear sN hLO15
    generalize upd G14 LO15 (.lst [.non, .int (-1), .bl true, .str "0", .ref A13, .bl false]) = G16 at sb fo fA13 ⊢
    refine ⟨p, c, LO15, cells, _, _, rfl, pen.mono sb (Nat.le_refl _), by omega, fo, no, by show 0 < 6; decide, by show 6 ≤ 100; decide, fun j x3 H17 ex pn kp => ?_⟩
    have tabs := tabs_kept (tabs_same tabs sb) (pen.mono sb (Nat.le_refl _)) kp
    have kn : KN p H12 H17 := (KN.same sb).trans (KN.kept kp)
    have st1 := st1.mono kn
    have st2 := st2.mono kn
    have fA13 := kp _ _ nA13.1 fA13
    obtain ⟨d3, b1, st3⟩ : ∃ d, isCount d = false ∧ St K p H17 x3 d := by
      rcases j with _ | _ | _ | _ | _ | _ | j
      · cases ex
        exact ⟨_, by decide +kernel, st_non⟩
      · cases ex
        exact ⟨_, by decide +kernel, st_int _⟩
      · cases ex
        exact ⟨_, by decide +kernel, st_bl _⟩
      · cases ex
        exact ⟨_, by decide +kernel, st_str _⟩
      · cases ex
        exact ⟨_, by decide +kernel, st_lst1 nA13.1 fA13 fun _ => .int _⟩
      · cases ex
        exact ⟨_, by decide +kernel, st_bl _⟩
      · cases ex
    have pen := pn
    clear pn kp sb fo no ex kn fA13 nA13
    have sb : Same H17 H17 := Same.refl _
    refine ⟨.ref p, rfl, 10, 12, rfl, rfl, ⟨by decide, by decide, by decide⟩, by show 4 ≤ sizeLine; decide, fun LO18 hLO18 => ?_⟩
    have sN := same_new (o := .lst [.int 0, .int 1, .int 7, .int (10 ^ (12 : Int).toNat)]) hLO18
    have fo : upd H17 LO18 (.lst [.int 0, .int 1, .int 7, .int (10 ^ (12 : Int).toNat)]) LO18 = some (.lst [.int 0, .int 1, .int 7, .int (10 ^ (12 : Int).toNat)]) := upd_same
    have no := ((pen.mono sb (Nat.le_refl _)).nn hLO18).1
    have sb := sb.trans sN
    clear sN hLO18
    generalize upd H17 LO18 (.lst [.int 0, .int 1, .int 7, .int (10 ^ (12 : Int).toNat)]) = G19 at sb fo  ⊢
    refine ⟨p, c, LO18, cells, _, _, rfl, pen.mono sb (Nat.le_refl _), by omega, fo, no, by show 0 < 4; decide, by show 4 ≤ 100; decide, fun j x4 H20 ex pn kp => ?_⟩
    have tabs := tabs_kept (tabs_same tabs sb) (pen.mono sb (Nat.le_refl _)) kp
    have kn : KN p H17 H20 := (KN.same sb).trans (KN.kept kp)
    have st1 := st1.mono kn
    have st2 := st2.mono kn
    have st3 := st3.mono kn
    obtain ⟨fi, rfl, f0⟩ : ∃ i : Int, x4 = .int i ∧ 0 ≤ i := by
      rcases j with _ | _ | _ | _ | j
      · exact ⟨_, (Option.some.inj ex).symm, by decide⟩
      · exact ⟨_, (Option.some.inj ex).symm, by decide⟩
      · exact ⟨_, (Option.some.inj ex).symm, by decide⟩
      · exact ⟨_, (Option.some.inj ex).symm, by decide⟩
      · cases ex
    have pen := pn
    clear pn kp sb fo no ex kn
    have sb : Same H20 H20 := Same.refl _
    refine ⟨.ref p, rfl, _, rfl, _, rfl, fi, 1, rfl, rfl, _, rfl, fi, 1, rfl, rfl, by show 1 ≤ sizeLine; decide, fun A21 hA21 => ?_⟩
    have sN := same_new (o := .lst [.int (fi + 1)]) hA21
    have fA21 : upd H20 A21 (.lst [.int (fi + 1)]) A21 = some (.lst [.int (fi + 1)]) := upd_same
    have nA21 := (pen.mono sb (Nat.le_refl _)).nn hA21
    have sb := sb.trans sN
    clear sN hA21
    generalize upd H20 A21 (.lst [.int (fi + 1)]) = G22 at sb fA21 ⊢
    refine ⟨1, rfl, by show 6 ≤ sizeLine; decide, fun LO23 hLO23 => ?_⟩
    have sN := same_new (o := .lst [.int fi, .int (fi - 1), .str "9", .ref A21, .bl true, .int (-1)]) hLO23
    have fA21 := sN _ _ fA21
    have fo : upd G22 LO23 (.lst [.int fi, .int (fi - 1), .str "9", .ref A21, .bl true, .int (-1)]) LO23 = some (.lst [.int fi, .int (fi - 1), .str "9", .ref A21, .bl true, .int (-1)]) := upd_same
    have no := ((pen.mono sb (Nat.le_refl _)).nn hLO23).1
    have sb := sb.trans sN
    clear sN hLO23
    generalize upd G22 LO23 (.lst [.int fi, .int (fi - 1), .str "9", .ref A21, .bl true, .int (-1)]) = G24 at sb fo fA21 ⊢
    refine ⟨p, c, LO23, cells, _, _, rfl, pen.mono sb (Nat.le_refl _), by omega, fo, no, by show 0 < 6; decide, by show 6 ≤ 100; decide, fun j x5 H25 ex pn kp => ?_⟩
    have tabs := tabs_kept (tabs_same tabs sb) (pen.mono sb (Nat.le_refl _)) kp
    have kn : KN p H20 H25 := (KN.same sb).trans (KN.kept kp)
    have st1 := st1.mono kn
    have st2 := st2.mono kn
    have st3 := st3.mono kn
    have fA21 := kp _ _ nA21.1 fA21
    obtain ⟨d5, e1, st5⟩ : ∃ d, endOk (.int fi) d = false ∧ St K p H25 x5 d := by
      rcases j with _ | _ | _ | _ | _ | _ | j
      · cases ex
        exact ⟨_, by show decide (fi < fi) = false; exact decide_eq_false (by omega), st_int _⟩
      · cases ex
        exact ⟨_, by show decide (fi < fi - 1) = false; exact decide_eq_false (by omega), st_int _⟩
      · cases ex
        exact ⟨_, rfl, st_str _⟩
      · cases ex
        exact ⟨_, rfl, st_lst1 nA21.1 fA21 fun _ => .int _⟩
      · cases ex
        exact ⟨_, rfl, st_bl _⟩
      · cases ex
        exact ⟨_, by show decide (fi < -1) = false; exact decide_eq_false (by omega), st_int _⟩
      · cases ex
    have pen := pn
    clear pn kp sb fo no ex kn fA21 nA21
    have sb : Same H25 H25 := Same.refl _
    refine ⟨.ref p, rfl, 1, rfl, by show 1 ≤ sizeLine; decide, fun A26 hA26 => ?_⟩
    have sN := same_new (o := .lst [.int 0]) hA26
    have fA26 : upd H25 A26 (.lst [.int 0]) A26 = some (.lst [.int 0]) := upd_same
    have nA26 := (pen.mono sb (Nat.le_refl _)).nn hA26
    have sb := sb.trans sN
    clear sN hA26
    generalize upd H25 A26 (.lst [.int 0]) = G27 at sb fA26 ⊢
    refine ⟨by show 5 ≤ sizeLine; decide, fun LO28 hLO28 => ?_⟩
    have sN := same_new (o := .lst [.int (-1), .bl true, .str "0", .ref A26, .bl false]) hLO28
    have fA26 := sN _ _ fA26
    have fo : upd G27 LO28 (.lst [.int (-1), .bl true, .str "0", .ref A26, .bl false]) LO28 = some (.lst [.int (-1), .bl true, .str "0", .ref A26, .bl false]) := upd_same
    have no := ((pen.mono sb (Nat.le_refl _)).nn hLO28).1
    have sb := sb.trans sN
    clear sN hLO28
    generalize upd G27 LO28 (.lst [.int (-1), .bl true, .str "0", .ref A26, .bl false]) = G29 at sb fo fA26 ⊢
    refine ⟨p, c, LO28, cells, _, _, rfl, pen.mono sb (Nat.le_refl _), by omega, fo, no, by show 0 < 5; decide, by show 5 ≤ 100; decide, fun j x6 H30 ex pn kp => ?_⟩
    have tabs := tabs_kept (tabs_same tabs sb) (pen.mono sb (Nat.le_refl _)) kp
    have kn : KN p H25 H30 := (KN.same sb).trans (KN.kept kp)
    have st1 := st1.mono kn
    have st2 := st2.mono kn
    have st3 := st3.mono kn
    have st5 := st5.mono kn
    have fA26 := kp _ _ nA26.1 fA26
    obtain ⟨d6, t1, t2, st6⟩ : ∃ d, d ≠ .none ∧ isCount d = false ∧ St K p H30 x6 d := by
      rcases j with _ | _ | _ | _ | _ | j
      · cases ex
        exact ⟨.int (-1), (fun z => nomatch z), by decide +kernel, st_int _⟩
      · cases ex
        exact ⟨.bool true, (fun z => nomatch z), by decide +kernel, st_bl _⟩
      · cases ex
        exact ⟨.str "0", (fun z => nomatch z), by decide +kernel, st_str _⟩
      · cases ex
        exact ⟨.list [.int 0], (fun z => nomatch z), by decide +kernel, st_lst1 nA26.1 fA26 fun _ => .int _⟩
      · cases ex
        exact ⟨.bool false, (fun z => nomatch z), by decide +kernel, st_bl _⟩
      · cases ex
    have pen := pn
    clear pn kp sb fo no ex kn fA26 nA26
    have tn := fun w e => told_no t1 t2 w e
    have kn0 : KN p H30 H30 := KN.refl _ _
    refine ⟨tabs, fun H1 x1_ T1 Q' kk => ?_⟩
    have kn1 := kn0.trans (KN.ext x1_)
    refine ⟨x1, rfl, x2, rfl, x3, rfl, x5, rfl, x6, rfl, fun x dx hx hdx ne => heard_bad (p := "client") hx hdx ne (st1 _ kn1) c2 (st2 _ kn1) w2 w3 (st3 _ kn1) (st5 _ kn1) (st6 _ kn1) (by unfold bad; rw [c1]; rfl) (by simp) fun t H2 s2 e2 => ?_⟩
    refine ⟨by show 1 ≤ sizeLine; decide, fun HL hHL => ?_⟩
    have hrr := Hr.first T1 (pen_ext pen x1_) kn1 s2 (d := askT "client") e2 hHL
    generalize upd H2 HL (.lst [.ref t]) = H31 at hrr ⊢
    obtain ⟨ts, hts⟩ : ∃ ts, ts = [t] := ⟨_, rfl⟩
    rw [← hts] at hrr
    clear hts hHL e2 s2 hx hdx ne kn1 T1 x1_ kk tabs pen kn0
    refine ⟨.ref HL, rfl, .inl ⟨rfl, _, SqL.of hrr.hl⟩, hrr.tabs, fun H1 x1_ T1 Q' kk => ?_⟩
    have kn1 := hrr.kn.trans (KN.ext x1_)
    refine ⟨x2, rfl, x3, rfl, x5, rfl, x6, rfl, fun x dx hx hdx ne => heard_bad (p := "word") hx hdx ne (.str _) (fun y e => by cases e; decide +kernel) (st2 _ kn1) w2 w3 (st3 _ kn1) (st5 _ kn1) (st6 _ kn1) (by unfold bad; rw [show isName (.str "a") = true from by decide +kernel, w1]; rfl) (by simp) fun t H2 s2 e2 => ?_⟩
    obtain ⟨hl2, hr2_⟩ := hrr.step x1_ T1 s2 (d := askT "word") e2
    refine ⟨HL, _, _, rfl, rfl, hl2, ?_, ?_⟩
    · rw [List.length_map, hrr.at_.1]
      exact Nat.lt_of_le_of_lt (show _ ≤ 100 from by decide) (show 100 < sizeLine by decide)
    generalize upd H2 HL (.lst (ts.map V.ref ++ [.ref t])) = H32 at hr2_ ⊢
    clear hrr
    obtain ⟨ts2, hts⟩ : ∃ ts2, ts2 = ts ++ [t] := ⟨_, rfl⟩
    rw [← hts] at hr2_
    have hrr := hr2_
    clear hr2_ hts hl2 e2 s2 hx hdx ne kn1 T1 x1_ kk
    clear ts
    obtain ⟨ts, hts⟩ : ∃ ts, ts = ts2 := ⟨_, rfl⟩
    rw [← hts] at hrr
    clear hts
    refine ⟨.ref HL, rfl, .inl ⟨rfl, _, SqL.of hrr.hl⟩, hrr.tabs, fun H1 x1_ T1 Q' kk => ?_⟩
    have kn1 := hrr.kn.trans (KN.ext x1_)
    refine ⟨x3, rfl, x5, rfl, x6, rfl, fun x dx hx hdx ne => heard_bad (p := "begun") hx hdx ne (.str _) (fun y e => by cases e; decide +kernel) (.str _) rfl (by decide +kernel) (st3 _ kn1) (st5 _ kn1) (st6 _ kn1) (by unfold bad; rw [show isName (.str "abcdefgh") = true from by decide +kernel, show wordOk (.str "get") = true from by decide +kernel, b1]; rfl) (by simp) fun t H2 s2 e2 => ?_⟩
    obtain ⟨hl2, hr2_⟩ := hrr.step x1_ T1 s2 (d := askT "begun") e2
    refine ⟨HL, _, _, rfl, rfl, hl2, ?_, ?_⟩
    · rw [List.length_map, hrr.at_.1]
      exact Nat.lt_of_le_of_lt (show _ ≤ 100 from by decide) (show 100 < sizeLine by decide)
    generalize upd H2 HL (.lst (ts.map V.ref ++ [.ref t])) = H33 at hr2_ ⊢
    clear hrr
    obtain ⟨ts2, hts⟩ : ∃ ts2, ts2 = ts ++ [t] := ⟨_, rfl⟩
    rw [← hts] at hr2_
    have hrr := hr2_
    clear hr2_ hts hl2 e2 s2 hx hdx ne kn1 T1 x1_ kk
    clear ts
    obtain ⟨ts, hts⟩ : ∃ ts, ts = ts2 := ⟨_, rfl⟩
    rw [← hts] at hrr
    clear hts
    refine ⟨.ref HL, rfl, .inl ⟨rfl, _, SqL.of hrr.hl⟩, hrr.tabs, fun H1 x1_ T1 Q' kk => ?_⟩
    have kn1 := hrr.kn.trans (KN.ext x1_)
    refine ⟨.int fi, rfl, x5, rfl, x6, rfl, fun x dx hx hdx ne => heard_bad (p := "ended") hx hdx ne (.str _) (fun y e => by cases e; decide +kernel) (.str _) rfl (by decide +kernel) (.int _) (st5 _ kn1) (st6 _ kn1) (by unfold bad; rw [show isName (.str "a") = true from by decide +kernel, show wordOk (.str "get") = true from by decide +kernel, show isCount (.int fi) = true from decide_eq_true f0, e1]; rfl) (by simp) fun t H2 s2 e2 => ?_⟩
    obtain ⟨hl2, hr2_⟩ := hrr.step x1_ T1 s2 (d := askT "ended") e2
    refine ⟨HL, _, _, rfl, rfl, hl2, ?_, ?_⟩
    · rw [List.length_map, hrr.at_.1]
      exact Nat.lt_of_le_of_lt (show _ ≤ 100 from by decide) (show 100 < sizeLine by decide)
    generalize upd H2 HL (.lst (ts.map V.ref ++ [.ref t])) = H34 at hr2_ ⊢
    clear hrr
    obtain ⟨ts2, hts⟩ : ∃ ts2, ts2 = ts ++ [t] := ⟨_, rfl⟩
    rw [← hts] at hr2_
    have hrr := hr2_
    clear hr2_ hts hl2 e2 s2 hx hdx ne kn1 T1 x1_ kk
    clear ts
    obtain ⟨ts, hts⟩ : ∃ ts, ts = ts2 := ⟨_, rfl⟩
    rw [← hts] at hrr
    clear hts
    refine ⟨.ref HL, rfl, .inl ⟨rfl, _, SqL.of hrr.hl⟩, hrr.tabs, fun H1 x1_ T1 Q' kk => ?_⟩
    have kn1 := hrr.kn.trans (KN.ext x1_)
    refine ⟨.int fi, rfl, _, rfl, fi, 1, rfl, rfl, x6, rfl, fun x dx hx hdx ne => heard_bad (p := "told") hx hdx ne (.str _) (fun y e => by cases e; decide +kernel) (.str _) rfl (by decide +kernel) (.int _) (.int _) (st6 _ kn1) (by unfold bad; rw [show isName (.str "a") = true from by decide +kernel, show wordOk (.str "get") = true from by decide +kernel, show isCount (.int fi) = true from decide_eq_true f0, show endOk (.int fi) (.int (fi + 1)) = true from decide_eq_true (show fi < fi + 1 by omega), tn]; rfl) (by simp) fun t H2 s2 e2 => ?_⟩
    obtain ⟨hl2, hr2_⟩ := hrr.step x1_ T1 s2 (d := askT "told") e2
    refine ⟨HL, _, _, rfl, rfl, hl2, ?_, ?_⟩
    · rw [List.length_map, hrr.at_.1]
      exact Nat.lt_of_le_of_lt (show _ ≤ 100 from by decide) (show 100 < sizeLine by decide)
    generalize upd H2 HL (.lst (ts.map V.ref ++ [.ref t])) = H35 at hr2_ ⊢
    clear hrr
    obtain ⟨ts2, hts⟩ : ∃ ts2, ts2 = ts ++ [t] := ⟨_, rfl⟩
    rw [← hts] at hr2_
    have hrr := hr2_
    clear hr2_ hts hl2 e2 s2 hx hdx ne kn1 T1 x1_ kk
    clear ts
    obtain ⟨ts, hts⟩ : ∃ ts, ts = ts2 := ⟨_, rfl⟩
    rw [← hts] at hrr
    clear hts
    refine ⟨.ref HL, rfl, .inl ⟨rfl, _, SqL.of hrr.hl⟩, hrr.tabs, fun H1 x1_ T1 Q' kk => ?_⟩
    have kn1 := hrr.kn.trans (KN.ext x1_)
    refine ⟨.int fi, rfl, _, rfl, fi, 1, rfl, rfl, fun x dx hx hdx ne => heard_bad (p := "told") hx hdx ne (.str _) (fun y e => by cases e; decide +kernel) (.str _) rfl (by decide +kernel) (.int _) (.int _) (.int _) (by unfold bad; rw [show isName (.str "a") = true from by decide +kernel, show wordOk (.str "put") = true from by decide +kernel, show isCount (.int fi) = true from decide_eq_true f0, show endOk (.int fi) (.int (fi + 1)) = true from decide_eq_true (show fi < fi + 1 by omega), show toldOk (.str "put") (.int (fi + 1)) (.int 0) = false from by (show (!isPut (.str "put") && isCount (.int 0)) = false); decide +kernel]; rfl) (by simp) fun t H2 s2 e2 => ?_⟩
    obtain ⟨hl2, hr2_⟩ := hrr.step x1_ T1 s2 (d := askT "told") e2
    refine ⟨HL, _, _, rfl, rfl, hl2, ?_, ?_⟩
    · rw [List.length_map, hrr.at_.1]
      exact Nat.lt_of_le_of_lt (show _ ≤ 100 from by decide) (show 100 < sizeLine by decide)
    generalize upd H2 HL (.lst (ts.map V.ref ++ [.ref t])) = H36 at hr2_ ⊢
    clear hrr
    obtain ⟨ts2, hts⟩ : ∃ ts2, ts2 = ts ++ [t] := ⟨_, rfl⟩
    rw [← hts] at hr2_
    have hrr := hr2_
    clear hr2_ hts hl2 e2 s2 hx hdx ne kn1 T1 x1_ kk
    clear ts
    obtain ⟨ts, hts⟩ : ∃ ts, ts = ts2 := ⟨_, rfl⟩
    rw [← hts] at hrr
    clear hts
    refine ⟨.ref HL, rfl, .inl ⟨rfl, _, SqL.of hrr.hl⟩, hrr.tabs, fun H1 x1_ T1 Q' kk => ?_⟩
    have kn1 := hrr.kn.trans (KN.ext x1_)
    refine ⟨.int fi, rfl, fun x dx hx hdx ne => heard_bad (p := "told") hx hdx ne (.str _) (fun y e => by cases e; decide +kernel) (.str _) rfl (by decide +kernel) (.int _) .non (.int _) (by unfold bad; rw [show isName (.str "a") = true from by decide +kernel, show wordOk (.str "get") = true from by decide +kernel, show isCount (.int fi) = true from decide_eq_true f0, show endOk (.int fi) .none = true from rfl, show toldOk (.str "get") .none (.int 0) = false from rfl]; rfl) (by simp) fun t H2 s2 e2 => ?_⟩
    obtain ⟨hl2, hr2_⟩ := hrr.step x1_ T1 s2 (d := askT "told") e2
    refine ⟨HL, _, _, rfl, rfl, hl2, ?_, ?_⟩
    · rw [List.length_map, hrr.at_.1]
      exact Nat.lt_of_le_of_lt (show _ ≤ 100 from by decide) (show 100 < sizeLine by decide)
    generalize upd H2 HL (.lst (ts.map V.ref ++ [.ref t])) = H37 at hr2_ ⊢
    clear hrr
    obtain ⟨ts2, hts⟩ : ∃ ts2, ts2 = ts ++ [t] := ⟨_, rfl⟩
    rw [← hts] at hr2_
    have hrr := hr2_
    clear hr2_ hts hl2 e2 s2 hx hdx ne kn1 T1 x1_ kk
    clear ts
    obtain ⟨ts, hts⟩ : ∃ ts, ts = ts2 := ⟨_, rfl⟩
    rw [← hts] at hrr
    clear hts
    refine ⟨.ref HL, rfl, .inl ⟨rfl, _, SqL.of hrr.hl⟩, hrr.tabs, fun H1 x1_ T1 Q' kk => ?_⟩
    refine ⟨.int fi, rfl, _, rfl, fi, 1, rfl, rfl, fun x dx hx hdx ne => mk_row (r := ⟨"a", true, fi, some (fi + 1), some 0⟩) ?_ (show ("a" : Str).length ≤ 1000 by decide +kernel) hx hdx ne fun H3 s3 _ => ⟨rfl, kk _ _ fun t H2 s2 e2 => ?_⟩⟩
    · exact row_ok (.inl rfl) f0 (fun x z => by cases z; omega) (fun x z => ⟨rfl, (fun y => nomatch y), by cases z; decide⟩)
    obtain ⟨hl2, hr2_⟩ := hrr.step x1_ T1 (s3.trans s2) (d := ["let"]) e2
    refine ⟨HL, _, _, rfl, rfl, hl2, ?_, ?_⟩
    · rw [List.length_map, hrr.at_.1]
      exact Nat.lt_of_le_of_lt (show _ ≤ 100 from by decide) (show 100 < sizeLine by decide)
    generalize upd H2 HL (.lst (ts.map V.ref ++ [.ref t])) = HE at hr2_ ⊢
    clear hrr
    have hrr := hr2_
    generalize ts ++ [t] = us at hrr
    clear hr2_ hl2 e2 s2 s3 hx hdx ne T1 x1_ kk tn t1 t2 e1 b1 w1 w2 w3 c1 c2 st1 st2 st3 st5 st6
    -- what is due
    refine ⟨by show 7 ≤ sizeLine; decide, fun LD hLD => ?_⟩
    have hrE := hrr
    have sD := same_new (o := .lst [.str "client", .str "word", .str "begun", .str "ended", .str "told", .str "told", .str "told"]) hLD
    have fD : upd HE LD (.lst [.str "client", .str "word", .str "begun", .str "ended", .str "told", .str "told", .str "told"]) LD = some (.lst (partsS.map V.str)) := upd_same
    generalize upd HE LD (.lst [.str "client", .str "word", .str "begun", .str "ended", .str "told", .str "told", .str "told"]) = HD at sD fD ⊢
    refine ⟨LD, rfl, ⟨_, SqL.of fD⟩, fun DU hDU => ?_⟩
    refine lc_it (walk_list (K := K) (a := LD) (xs := partsS.map V.str)) (fun i H' => ∃ ts : List Addr, H' DU = some (.lst (ts.map V.ref)) ∧ TupsAt H' ts ((partsS.take i).map askT) ∧ Same HD H') ⟨[], upd_same, ⟨rfl, fun i t d e => (by cases e)⟩, same_new hDU⟩ (fun i H' _ ⟨_, _, _, s'⟩ => SqL.of (s' _ _ fD)) ?_ ?_
    · rintro i x H4 H5 hi ⟨ts, hd, ⟨tl, ta⟩, s4⟩ ⟨rfl, hx⟩
      have hi2 : i < partsS.length := by rw [List.length_map] at hi; exact hi
      have ep : partsS[i]? = some partsS[i] := List.getElem?_eq_getElem hi2
      have ex : x = .str partsS[i] := by
        rw [List.getElem?_map, ep] at hx
        exact (Option.some.inj hx).symm
      subst ex
      have tk : (partsS.take (i + 1)).map askT = (partsS.take i).map askT ++ [askT partsS[i]] := by
        rw [List.take_add_one, ep, List.map_append]
        rfl
      rw [tk]
      have mp : partsS[i] ∈ partsS := List.getElem_mem hi2
      have tel : Tell (.str partsS[i]) := tell_part _ (by
        have h : partsS.all (fun p => decide (p ∈ (["client", "word", "begun", "ended", "told", "other", "asks"] : List Str))) = true := by decide +kernel
        exact of_decide_eq_true (List.all_eq_true.mp h _ mp))
      have tli : ts.length ≤ 7 := by
        rw [tl, List.length_map, List.length_take]
        exact Nat.le_trans (Nat.min_le_right _ _) (by decide)
      generalize partsS[i] = pt at tel ⊢
      obtain ⟨sh, ln, dp⟩ := tel
      refine ⟨rfl, yes_go ⟨.str pt, rfl, .str pt, .str pt, rfl, .str _, sh, ln, dp, by show 2 ≤ sizeLine; decide, fun U hU => ?_⟩⟩
      have hd2 := same_new (o := .tup [.str "ask", .str (PyData.str pt).shown]) hU _ _ hd
      have nUD : U ≠ DU := (ne_of_none hd hU).symm
      refine ⟨_, hd2, ?_, ts ++ [U], by rw [upd_same, List.map_append]; rfl, ⟨?_, fun j t d e1 e2 => ?_⟩, fun b o e => by rw [upd_ne (ne_of_none e hDU)]; exact same_new hU _ _ (s4 _ _ e)⟩
      · rw [List.length_map]
        exact Nat.lt_of_le_of_lt tli (by decide)
      · rw [List.length_append, List.length_append, tl]
        rfl
      · by_cases hj : j < ts.length
        · rw [List.getElem?_append_left hj] at e1
          rw [List.getElem?_append_left (by omega)] at e2
          have old := same_new (o := .tup [.str "ask", .str (PyData.str pt).shown]) hU _ _ (ta j t d e1 e2)
          have nt : t ≠ DU := fun z => by
            rw [z, hd2] at old
            cases old
          rw [upd_ne nt]
          exact old
        · rw [List.getElem?_append_right (by omega)] at e1 e2
          have j0 : j - ts.length = 0 := by
            cases hz : j - ts.length with
            | zero => rfl
            | succ m => rw [hz] at e1; cases e1
          rw [j0] at e1
          rw [show j - ((partsS.take i).map askT).length = 0 by omega] at e2
          cases e1
          cases e2
          rw [upd_ne nUD, upd_same]
          rfl
    rintro HF_ ⟨ts, hd, ta, s4⟩
    rw [List.length_map, List.take_of_length_le (Nat.le_refl _)] at ta
    have sF := sD.trans s4
    refine ⟨.ref HL, rfl, .ref DU, rfl, by show 1 ≤ sizeLine; decide, fun TL hTL => ⟨by show 1 ≤ sizeLine; decide, fun L1 hL1 => ?_⟩⟩
    have s5 := same_new (o := .tup [.str "let"]) hTL
    have fT : upd HF_ TL (.tup [.str "let"]) TL = some (.tup (([("let" : Str)] : List Str).map V.str)) := upd_same
    generalize upd HF_ TL (.tup [.str "let"]) = G5 at s5 fT hL1 ⊢
    have s6 := same_new (o := .lst [.ref TL]) hL1
    have fL : upd G5 L1 (.lst [.ref TL]) L1 = some (.lst [.ref TL]) := upd_same
    generalize upd G5 L1 (.lst [.ref TL]) = G6 at s6 fL ⊢
    refine ⟨DU, L1, _, _, rfl, rfl, s6 _ _ (s5 _ _ hd), fL, ?_, fun LF hLF => ?_⟩
    · rw [List.length_map, ta.1, List.length_map]
      exact Nat.le_trans (show partsS.length + 1 ≤ 100 by decide) (by decide)
    have s7 := same_new (o := .lst (ts.map V.ref ++ [.ref TL])) hLF
    have fF : upd G6 LF (.lst (ts.map V.ref ++ [.ref TL])) LF = some (.lst ((ts ++ [TL]).map V.ref)) := by rw [upd_same, List.map_append]; rfl
    generalize upd G6 LF (.lst (ts.map V.ref ++ [.ref TL])) = G7 at s7 fF ⊢
    have s567 := s5.trans (s6.trans s7)
    have taF : TupsAt G7 (ts ++ [TL]) (partsS.map askT ++ ([["let"]] : List (List Str))) := by
      refine ⟨by rw [List.length_append, List.length_append, ta.1]; rfl, fun j t d e1 e2 => ?_⟩
      have tl := ta.1
      by_cases hj : j < ts.length
      · rw [List.getElem?_append_left hj] at e1
        rw [List.getElem?_append_left (by omega)] at e2
        exact s567 _ _ (ta.2 j t d e1 e2)
      · rw [List.getElem?_append_right (by omega)] at e1 e2
        have j0 : j - ts.length = 0 := by
          cases hz : j - ts.length with
          | zero => rfl
          | succ m => rw [hz] at e1; cases e1
        rw [j0] at e1
        rw [show j - (partsS.map askT).length = 0 by omega] at e2
        cases e1
        cases e2
        exact (s6.trans s7) _ _ fT
    have sAll := sF.trans s567
    refine ⟨_, _, ds_dp (sAll _ _ hrE.hl) (tups_mono sAll hrE.at_), ds_dp fF taF, by decide +kernel, by decide +kernel, ?_⟩
    rw [show PyData.eqv (dsD _) (dsD (partsS.map askT ++ ([["let"]] : List (List Str)))) = true from by decide +kernel]
    exact q _ ((hrE.pen.mono sAll (Nat.le_refl _)).more (by omega)) (tabs_same hrE.tabs sAll)
end
end K34
end

section
set_option Elab.async false
set_option linter.all false
set_option maxRecDepth 100000
set_option maxHeartbeats 4000000
/-! histories that are refused; a great one -/
namespace K34
open PySem PySem.Spec PyProof.Rows L2 KZ
def putR : Row := ⟨"a", false, 0, none, none⟩
def badR (t : Int) : Row := ⟨"b", true, 1, some 2, some t⟩
def fineR : Row := ⟨"c", true, 1, some 2, some 0⟩
def coreB (n f : Nat) (t : Int) : List Row := ((List.replicate n putR).take f ++ [badR t] ++ (List.replicate n putR).drop f) ++ [badR t, fineR]
def preB (f : Nat) : List Row := if f = 0 then [putR] else []
def rowsB (n f : Nat) (t : Int) : List Row := preB f ++ coreB n f t
theorem bad_some {n f : Nat} {t : Int} (h1 : 1 ≤ n) (h2 : n ≤ 4) (h3 : f ≤ n) (ht : t = (n : Int) + 3 ∨ t = (n : Int) + 4 ∨ t = (n : Int) + 2 ∨ t = 10 ^ (15 : Int).toNat) : ∃ i, firstBad (rowsB n f t) = some i := by
  have h : (List.range 5).all (fun n => (List.range 5).all fun f => decide (n = 0) || ([(n : Int) + 3, (n : Int) + 4, (n : Int) + 2, 10 ^ (15 : Int).toNat] : List Int).all fun t => (firstBad (rowsB n f t)).isSome) = true := by decide +kernel
  have a := List.all_eq_true.mp (List.all_eq_true.mp h n (List.mem_range.mpr (by omega))) f (List.mem_range.mpr (by omega))
  rw [Bool.or_eq_true] at a
  rcases a with a | a
  · have := of_decide_eq_true a
    omega
  · exact Option.isSome_iff_exists.mp (List.all_eq_true.mp a t (by rcases ht with rfl | rfl | rfl | rfl <;> simp))
theorem row_ok' {c : Str} {g : Bool} {b : Int} {e t : Option Int} (hc : isName (.str c) = true) (b0 : 0 ≤ b) (he : ∀ x, e = some x → b < x) (ht : ∀ x, t = some x → g = true ∧ e ≠ none ∧ 0 ≤ x) : (⟨c, g, b, e, t⟩ : Row).Ok := ⟨hc, b0, he, ht⟩
theorem putR_ok : putR.Ok := row_ok' (by decide +kernel) (by decide) (fun x z => nomatch z) (fun x z => nomatch z)
theorem badR_ok {t : Int} (h : 0 ≤ t) : (badR t).Ok := row_ok' (by decide +kernel) (by decide) (fun x z => by cases z; decide) (fun x z => ⟨rfl, (fun y => nomatch y), by cases z; exact h⟩)
theorem fineR_ok : fineR.Ok := row_ok' (by decide +kernel) (by decide) (fun x z => by cases z; decide) (fun x z => ⟨rfl, (fun y => nomatch y), by cases z; decide⟩)
theorem rowsB_mem {n f : Nat} {t : Int} {r : Row} (m : r ∈ rowsB n f t) : r = putR ∨ r = badR t ∨ r = fineR := by
  unfold rowsB coreB at m
  have rep : ∀ {l : List Row}, (∀ x ∈ l, x = putR) → ∀ x ∈ l, x = putR := fun h => h
  rcases List.mem_append.mp m with m | m
  · unfold preB at m
    split at m
    · rcases List.mem_cons.mp m with rfl | m
      · exact .inl rfl
      · cases m
    · cases m
  rcases List.mem_append.mp m with m | m
  · rcases List.mem_append.mp m with m | m
    · rcases List.mem_append.mp m with m | m
      · exact .inl (List.eq_of_mem_replicate (List.mem_of_mem_take m))
      · rcases List.mem_cons.mp m with rfl | m
        · exact .inr (.inl rfl)
        · cases m
    · exact .inl (List.eq_of_mem_replicate (List.mem_of_mem_drop m))
  · rcases List.mem_cons.mp m with rfl | m
    · exact .inr (.inl rfl)
    rcases List.mem_cons.mp m with rfl | m
    · exact .inr (.inr rfl)
    · cases m
theorem rowsB_ok {n f : Nat} {t : Int} (h : 0 ≤ t) : ∀ r ∈ rowsB n f t, r.Ok ∧ r.c.length ≤ 1000 := fun r m => by
  rcases rowsB_mem m with rfl | rfl | rfl
  · exact ⟨putR_ok, by decide +kernel⟩
  · exact ⟨badR_ok h, show ("b" : Str).length ≤ 1000 by decide +kernel⟩
  · exact ⟨fineR_ok, by decide +kernel⟩
theorem rowsB_len {n f : Nat} {t : Int} (h : f ≤ n) : (rowsB n f t).length = n + 3 + (if f = 0 then 1 else 0) := by
  unfold rowsB coreB preB
  simp only [List.length_append, List.length_take, List.length_drop, List.length_replicate, List.length_cons, List.length_nil]
  split <;> simp <;> omega
def badL (rs : List Row) : List Nat := (List.range rs.length).filter (badAt rs)
theorem badL_head {rs : List Row} {i : Nat} (h : firstBad rs = some i) : (badL rs)[0]? = some i := by
  unfold badL
  rw [← List.head?_eq_getElem?, List.head?_filter]
  exact h
/-! the great one -/
def greatR (b m : Int) : List Row := ⟨"a", false, b, some (b + 1), none⟩ :: (List.range 999).map fun (k : Nat) => ⟨"b", true, b + k, some (b + k + m), some 0⟩
theorem g_len (b m : Int) : (greatR b m).length = 1000 := by
  unfold greatR
  rw [List.length_cons, List.length_map, List.length_range]
theorem g_0 (b m : Int) : (greatR b m)[0]? = some ⟨"a", false, b, some (b + 1), none⟩ := rfl
theorem g_S (b m : Int) {k : Nat} (h : k < 999) : (greatR b m)[k + 1]? = some ⟨"b", true, b + k, some (b + k + m), some 0⟩ := by
  unfold greatR
  rw [List.getElem?_cons_succ, List.getElem?_map, List.getElem?_range h]
  rfl
theorem g_cases {b m : Int} {i : Nat} {r : Row} (h : (greatR b m)[i]? = some r) : (i = 0 ∧ r = ⟨"a", false, b, some (b + 1), none⟩) ∨ ∃ k : Nat, k < 999 ∧ i = k + 1 ∧ r = ⟨"b", true, b + k, some (b + k + m), some 0⟩ := by
  cases i with
  | zero =>
    rw [g_0] at h
    exact .inl ⟨rfl, (Option.some.inj h).symm⟩
  | succ k =>
    have hl := (List.getElem?_eq_some_iff.mp h).1
    rw [g_len] at hl
    have hk : k < 999 := by omega
    rw [g_S b m hk] at h
    exact .inr ⟨k, hk, rfl, (Option.some.inj h).symm⟩
theorem g_mem {b m : Int} {r : Row} (h : r ∈ greatR b m) : r = ⟨"a", false, b, some (b + 1), none⟩ ∨ ∃ k : Nat, k < 999 ∧ r = ⟨"b", true, b + k, some (b + k + m), some 0⟩ := by
  obtain ⟨i, hi, e⟩ := List.mem_iff_getElem.mp h
  rcases g_cases (b := b) (m := m) (i := i) (r := r) (by rw [List.getElem?_eq_getElem hi, e]) with ⟨_, z⟩ | ⟨k, hk, _, z⟩
  · exact .inl z
  · exact .inr ⟨k, hk, z⟩
theorem g_ok {b m : Int} (hb : 0 ≤ b) (hm : 0 < m) : ∀ r ∈ greatR b m, r.Ok := fun r h => by
  rcases g_mem h with rfl | ⟨k, hk, rfl⟩
  · exact row_ok' (by decide +kernel) hb (fun x z => by cases z; omega) (fun x z => nomatch z)
  · exact row_ok' (by decide +kernel) (by omega) (fun x z => by cases z; omega) (fun x z => ⟨rfl, (fun y => nomatch y), by cases z; decide⟩)
theorem g_nobad (b m : Int) : firstBad (greatR b m) = none := by
  unfold firstBad
  rw [List.find?_range_eq_none]
  intro i hi
  unfold badAt
  have e := List.getElem?_eq_getElem hi
  rw [e]
  rcases g_cases e with ⟨_, z⟩ | ⟨k, hk, _, z⟩
  · rw [z]; rfl
  · rw [z]
    show (!(decide (((greatR b m).length : Int) ≤ 0) || (match (greatR b m)[(0 : Int).toNat]? with
      | some r => r.g
      | none => true))) = true
    rw [g_len, show (0 : Int).toNat = 0 from rfl, g_0]
    rfl
theorem g_parts (b m : Int) : partsOf (greatR b m) = List.range 1000 := by
  unfold partsOf
  rw [g_len]
  refine List.filter_eq_self.mpr fun i hi => ?_
  have hl : i < (greatR b m).length := by rw [g_len]; exact List.mem_range.mp hi
  have e := List.getElem?_eq_getElem hl
  unfold isPart
  rw [e]
  rcases g_cases e with ⟨_, z⟩ | ⟨k, hk, _, z⟩ <;> (rw [z]; rfl)
theorem g_lot {b m : Int} {i : Nat} {r : Row} (h : (greatR b m)[i]? = some r) : lotOf r i = some 0 := by
  rcases g_cases h with ⟨rfl, rfl⟩ | ⟨k, hk, rfl, rfl⟩
  · rfl
  · rfl
theorem g_has (b m : Int) (k : Option Int) : hasM (greatR b m) k = decide (k = some 0) := by
  rw [Bool.eq_iff_iff, hasM_iff]
  constructor
  · rintro ⟨r, mr⟩
    obtain ⟨i, _, e, lk⟩ := mem_mine.mp mr
    rw [g_lot e] at lk
    exact decide_eq_true lk.symm
  · intro h
    have hk := of_decide_eq_true h
    exact ⟨_, mem_mine.mpr ⟨0, by rw [g_parts]; exact List.mem_range.mpr (by decide), g_0 b m, by rw [hk]; rfl⟩⟩
theorem g_mine {b m : Int} {r : Row} : r ∈ mineR (greatR b m) (some 0) (partsOf (greatR b m)) ↔ r ∈ greatR b m := by
  rw [mem_mine]
  constructor
  · rintro ⟨i, _, e, _⟩
    exact List.mem_of_getElem? e
  · intro h
    obtain ⟨i, hi, e⟩ := List.mem_iff_getElem.mp h
    have e2 : (greatR b m)[i]? = some r := by rw [List.getElem?_eq_getElem hi, e]
    exact ⟨i, by rw [g_parts]; exact List.mem_range.mpr (by rw [g_len] at hi; exact hi), e2, g_lot e2⟩
theorem g_zones {b m : Int} (hb : 0 ≤ b) (hm : 0 < m) : zonesOf (greatR b m) = [(some 0, b + 1, b + 998)] := by
  rw [zones_eq (g_ok hb hm) (g_nobad b m), g_len]
  have f : (none :: (List.range 1000).map fun (i : Nat) => some (i : Int)).filter (hasM (greatR b m)) = [some 0] := by
    rw [show hasM (greatR b m) = fun k => decide (k = some 0) from funext (g_has b m)]
    rw [List.filter_cons, if_neg (by decide), show List.range 1000 = 0 :: (List.range 999).map Nat.succ from List.range_succ_eq_map, List.map_cons, List.filter_cons, if_pos (by decide)]
    show some (0 : Int) :: _ = [some 0]
    refine congrArg (some (0 : Int) :: ·) ?_
    refine List.filter_eq_nil_iff.mpr fun k mk => ?_
    obtain ⟨j, mj, rfl⟩ := List.mem_map.mp mk
    obtain ⟨l, ml, rfl⟩ := List.mem_map.mp mj
    intro z
    have z2 := Option.some.inj (of_decide_eq_true z)
    have : ((l.succ : Nat) : Int) = 0 := z2
    omega
  rw [f, List.map_cons, List.map_nil]
  unfold zoneM
  have e1 : accE none ((mineR (greatR b m) (some 0) (partsOf (greatR b m))).filterMap (·.e)) = some (b + 1) := by
    refine accE_min ?_ fun y hy => ?_
    · exact List.mem_filterMap.mpr ⟨_, g_mine.mpr (List.mem_of_getElem? (g_0 b m)), rfl⟩
    · obtain ⟨r, mr, er⟩ := List.mem_filterMap.mp hy
      rcases g_mem (g_mine.mp mr) with rfl | ⟨k, hk, rfl⟩
      · cases er; omega
      · cases er; omega
  have e2 : accB none ((mineR (greatR b m) (some 0) (partsOf (greatR b m))).map (·.b)) = some (b + 998) := by
    refine accB_max ?_ fun y hy => ?_
    · exact List.mem_map.mpr ⟨_, g_mine.mpr (List.mem_of_getElem? (g_S b m (k := 998) (by decide))), rfl⟩
    · obtain ⟨r, mr, er⟩ := List.mem_map.mp hy
      rcases g_mem (g_mine.mp mr) with rfl | ⟨k, hk, rfl⟩
      · rw [← er]
        show b ≤ b + 998
        omega
      · rw [← er]
        show b + (k : Int) ≤ b + 998
        omega
  rw [e1, e2, if_neg (by exact fun z => nomatch z)]
  rfl
theorem sm_int3 {i : Int} (h : i.natAbs < 10 ^ 3) : Sm 4 0 (.int i) := by
  refine ⟨?_, ?_, Nat.le_refl 0⟩
  · simp only [PyData.showable, decide_eq_true_eq]
    by_cases z : i.natAbs = 0
    · rw [z]; decide
    · exact (Nat.log2_lt z).mpr (Nat.lt_of_lt_of_le h (Nat.le_trans (show (10 : Nat) ^ 3 ≤ 2 ^ 44 by decide) (Nat.pow_le_pow_right (by decide) (show 44 ≤ 1920 by decide))))
  · have e := int_text_length_le10 (k := 3) (by decide) h
    show (Str.ofString (toString i)).length ≤ 4
    rw [PySem.ofString_length]
    exact e
theorem g_parts_small (b m : Int) : Tell (partsD (greatR b m)) := by
  unfold partsD
  rw [g_parts]
  refine (Sm.tup (L := 4) (D := 0) fun d md => ?_).tell ?_ (by decide)
  · obtain ⟨i, mi, rfl⟩ := List.mem_map.mp md
    have := List.mem_range.mp mi
    exact sm_int3 (by show i < 1000; exact this)
  · rw [List.length_map, List.length_range]
    decide
theorem g_zones_small {b m : Int} (hb : 0 ≤ b) (hb2 : b < 1000) (hm : 0 < m) : Tell (zonesD (greatR b m)) := by
  unfold zonesD
  rw [g_zones hb hm]
  refine (Sm.tup (L := 51) (D := 1) fun d md => ?_).tell (show 51 * 1 + 2 * 1 + 3 ≤ 10000 by decide) (by decide)
  rcases List.mem_cons.mp md with rfl | md
  · refine (Sm.tup (L := 14) (D := 0) fun d md => ?_).mono (show 51 ≤ 51 by decide) (by decide)
    rcases List.mem_cons.mp md with rfl | md
    · exact sm_opt fun i e => by cases e; unfold SmI; decide
    rcases List.mem_cons.mp md with rfl | md
    · exact sm_int (by unfold SmI; show (b + 1).natAbs < _; omega)
    rcases List.mem_cons.mp md with rfl | md
    · exact sm_int (by unfold SmI; show (b + 998).natAbs < _; omega)
    · cases md
  · cases md
end K34
end

section
set_option Elab.async false
set_option linter.all false
set_option maxRecDepth 100000
set_option maxHeartbeats 4000000
/-! rules with the fragment named; what is let out is heard -/
namespace K34
open PySem PySem.Spec PyProof.Rows L2 KZ
def rLenK (K : PySem.W.Frag) : List V → Hp → VK → Prop := fun xs H Q => ∃ x n, xs = [x] ∧ LenV K x H n ∧ Q (.int n) H
theorem call_lenK {X : Cx} (K : PySem.W.Frag) (h : X.K = K := by rfl) : CallR X (.builtin "len") (rLenK K) := by subst h; exact call_len
def rTupOf (K : PySem.W.Frag) : List V → Hp → VK → Prop := fun xs H Q => ∃ p ys, xs = [.ref p] ∧ ((SqL K H p ys ∧ ∀ l, H l = none → Q (.ref l) (upd H l (.tup ys))) ∨ (SqT K H p ys ∧ Q (.ref p) H))
theorem call_tupK {X : Cx} (K : PySem.W.Frag) (h : X.K = K := by rfl) : CallR X (.type "tuple") (rTupOf K) := by subst h; exact call_tuple_of
theorem cut_take {xs : List V} {f : Nat} (h : f ≤ xs.length) : cutV xs none (some (f : Int)) = xs.take f := by
  unfold cutV
  rw [HT.sIx_none, HT.sIx_nat, List.drop_zero, Nat.sub_zero, Nat.min_eq_left h]
theorem cut_drop {xs : List V} {f : Nat} (h : f ≤ xs.length) : cutV xs (some (f : Int)) none = xs.drop f := by
  unfold cutV
  rw [HT.sIx_none, HT.sIx_nat, Nat.min_eq_left h]
  exact List.take_of_length_le (by rw [List.length_drop]; exact Nat.le_refl _)
theorem flat_rep {α : Type} (x : α) : ∀ n : Nat, (List.replicate n [x]).flatten = List.replicate n x
  | 0 => rfl
  | n + 1 => by
    rw [List.replicate_succ, List.flatten_cons, flat_rep x n, List.replicate_succ]
    rfl
section
variable {K : PySem.W.Frag} {C cB cT : Addr}
/-- what is no history -/
def BadH (K : PySem.W.Frag) (C : Addr) (v : V) (H : Hp) : Prop := NoSq K H v ∨ ∃ a xs, ∃ g : V → Bool, v = .ref a ∧ Sq K H a xs ∧ xs.length ≤ 2000 ∧ (∀ x ∈ xs, ∃ t, TyX K H x t ∧ PySem.W.kitOne K t (.ref C) = some (g x)) ∧ ∃ x ∈ xs, g x = false
theorem looked_bad {v : V} {H : Hp} {E : XK} {go : Addr → List Row → Prop} (h : BadH K C v H) (o : OutF cB [("part", .str "asks")] H E) : Looked K C cB cT v H E go := by
  rcases h with h | ⟨a, xs, g, h1, h2, h3, h4, h5⟩
  · exact .inl ⟨h, o⟩
  · exact .inr (.inl ⟨a, xs, g, h1, h2, h3, h4, h5, o⟩)
theorem heard_out {H : Hp} {Q : VK} {p : Str} (hp : p ∈ (["client", "word", "begun", "ended", "told", "other", "asks"] : List Str)) (go : ∀ t H2, Same H H2 → H2 t = some (.tup ((askT p).map V.str)) → Q (.ref t) H2) : OutF cB [("part", .str p)] H (HeardE K cB cT Q) :=
  fun d H2 s2 hd => ⟨d, _, rfl, hd, .inl ⟨rfl, .str p, .str p, rfl, .str _, tell_part p hp, fun t H3 s3 e3 => go t H3 (s2.trans s3) e3⟩⟩
def askI (i : Int) : List Str := ["ask", (PyData.int i).shown]
theorem heard_outI {H : Hp} {Q : VK} {i : Int} (hp : Tell (.int i)) (go : ∀ t H2, Same H H2 → H2 t = some (.tup ((askI i).map V.str)) → Q (.ref t) H2) : OutF cB [("part", .int i)] H (HeardE K cB cT Q) :=
  fun d H2 s2 hd => ⟨d, _, rfl, hd, .inl ⟨rfl, .int i, .int i, rfl, .int _, hp, fun t H3 s3 e3 => go t H3 (s2.trans s3) e3⟩⟩
def manyT : List Str := ["many", (PyData.str "asks").shown, (PyData.int 1000).shown]
theorem heard_outM {H : Hp} {Q : VK} (go : ∀ t H2, Same H H2 → H2 t = some (.tup (manyT.map V.str)) → Q (.ref t) H2) : OutF cT [("most", .int 1000), ("what", .str "asks")] H (HeardE K cB cT Q) :=
  fun d H2 s2 hd => ⟨d, _, rfl, hd, .inr ⟨rfl, .str "asks", .str "asks", .int 1000, .int 1000, rfl, .str _, tell_part "asks" (by simp), rfl, .int _, (sm_int (i := 1000) (by unfold SmI; decide)).tell (by decide) (by decide), fun t H3 s3 e3 => go t H3 (s2.trans s3) e3⟩⟩
theorem eqv_strs : ∀ d : List Str, PyData.eqvAll (d.map .str) (d.map .str) = true
  | [] => rfl
  | x :: d => by
    show ((x == x) && PyData.eqvAll (d.map .str) (d.map .str)) = true
    rw [eqv_strs d]
    simp
theorem eqv_ds : ∀ ds : List (List Str), PyData.eqvAll (ds.map fun d => .tuple (d.map PyData.str)) (ds.map fun d => .tuple (d.map PyData.str)) = true
  | [] => rfl
  | d :: ds => by
    show (PyData.eqvAll (d.map .str) (d.map .str) && PyData.eqvAll (ds.map fun d => .tuple (d.map PyData.str)) (ds.map fun d => .tuple (d.map PyData.str))) = true
    rw [eqv_strs, eqv_ds ds]
    rfl
theorem can_strs : ∀ {d : List Str}, (∀ x ∈ d, PyData.canLay0 (.str x) = true) → PyData.canLayAll0 (d.map .str) = true
  | [], _ => rfl
  | x :: d, h => by
    show (PyData.canLay0 (.str x) && PyData.canLayAll0 (d.map .str)) = true
    rw [h x List.mem_cons_self, can_strs fun y m => h y (List.mem_cons_of_mem _ m)]
    rfl
theorem dep_strs : ∀ d : List Str, PyData.depthAll (d.map .str) = 0
  | [] => rfl
  | x :: d => by
    show max 0 (PyData.depthAll (d.map .str)) = 0
    rw [dep_strs d]
    rfl
theorem ds_shaped {ds : List (List Str)} (h : ∀ d ∈ ds, ∀ x ∈ d, PyData.canLay0 (.str x) = true) : SeqAt.shaped (dsD ds) = true := by
  have h1 : ∀ {ds : List (List Str)}, (∀ d ∈ ds, ∀ x ∈ d, PyData.canLay0 (.str x) = true) → PyData.canLayAll0 (ds.map fun d => .tuple (d.map PyData.str)) = true ∧ PyData.depthAll (ds.map fun d => .tuple (d.map PyData.str)) ≤ 1 := by
    intro ds
    induction ds with
    | nil => exact fun _ => ⟨rfl, Nat.zero_le _⟩
    | cons d ds ih =>
      intro h
      obtain ⟨a, b⟩ := ih fun x m => h x (List.mem_cons_of_mem _ m)
      refine ⟨?_, ?_⟩
      · show (PyData.canLayAll0 (d.map .str) && PyData.canLayAll0 (ds.map fun d => .tuple (d.map PyData.str))) = true
        rw [can_strs (h d List.mem_cons_self), a]
        rfl
      · show max (PyData.depthAll (d.map .str) + 1) (PyData.depthAll (ds.map fun d => .tuple (d.map PyData.str))) ≤ 1
        rw [dep_strs]
        omega
  obtain ⟨a, b⟩ := h1 h
  refine shaped_of a ?_
  show PyData.depthAll _ + 1 ≤ 64
  omega
theorem int_text {i : Nat} (h : i < 20) : PyData.canLay0 (.str (PyData.int i).shown) = true := by
  have z : (List.range 20).all (fun i => PyData.canLay0 (.str (PyData.int (i : Nat)).shown)) = true := by decide +kernel
  exact List.all_eq_true.mp z i (List.mem_range.mpr h)
theorem badh_pair {H : Hp} {a AS : Addr} {y : V} {ty : Value} (hs : Sq K H a [.ref AS, y]) (tx : TyX K H (.ref AS) (.ref C)) (me : PySem.W.kitOne K (.ref C) (.ref C) = some true) (tyy : TyX K H y ty) (no : PySem.W.kitOne K ty (.ref C) = some false) (ne : V.ref AS ≠ y) : BadH K C (.ref a) H := by
  refine .inr ⟨a, _, fun v => decide (v ≠ y), rfl, hs, (show 2 ≤ 2000 by decide), fun x m => ?_, y, by simp, by simp⟩
  rcases List.mem_cons.mp m with rfl | m
  · exact ⟨_, tx, by rw [me]; exact congrArg some (decide_eq_true ne).symm⟩
  rcases List.mem_cons.mp m with rfl | m
  · exact ⟨_, tyy, by rw [no]; simp⟩
  · cases m
theorem badh_one {H : Hp} {a : Addr} {y : V} {ty : Value} (hs : Sq K H a [y]) (tyy : TyX K H y ty) (no : PySem.W.kitOne K ty (.ref C) = some false) : BadH K C (.ref a) H := by
  refine .inr ⟨a, _, fun v => false, rfl, hs, (show 1 ≤ 2000 by decide), fun x m => ?_, y, by simp, rfl⟩
  rcases List.mem_cons.mp m with rfl | m
  · exact ⟨_, tyy, no⟩
  · cases m
/-- the types that are no sequence -/
structure NoLT (K : PySem.W.Frag) (C : Addr) : Prop where
  ts : ∀ T ∈ ["NoneType", "bool", "int", "str", "dict"], PySem.W.kitOne K (.type T) (.type "list") = some false ∧ PySem.W.kitOne K (.type T) (.type "tuple") = some false
  c : PySem.W.kitOne K (.ref C) (.type "list") = some false ∧ PySem.W.kitOne K (.ref C) (.type "tuple") = some false
/-- a history and one ask more -/
theorem hist_snoc {H : Hp} {a x : Addr} {ps : List Addr} {rs : List Row} {r : Row} (h : AsksAt C H ps rs) (hx : AskAt C H x r) (ha : H a = some (.lst (ps.map V.ref ++ [.ref x]))) : Hist K C H a (rs ++ [r]) := by
  refine ⟨ps ++ [x], .inl (SqL.of (by rw [ha, List.map_append]; rfl)), by rw [List.length_append, List.length_append, h.1]; rfl, fun i p r' e1 e2 => ?_⟩
  have h1 := h.1
  by_cases hi : i < ps.length
  · rw [List.getElem?_append_left hi] at e1
    rw [List.getElem?_append_left (by omega)] at e2
    exact h.2 i p r' e1 e2
  · rw [List.getElem?_append_right (by omega)] at e1 e2
    have i0 : i - ps.length = 0 := by
      cases hz : i - ps.length with
      | zero => rfl
      | succ m => rw [hz] at e1; cases e1
    rw [i0] at e1
    rw [show i - rs.length = 0 by omega] at e2
    cases e1
    cases e2
    exact hx
theorem ask_ext {H H' : Hp} {a : Addr} {r : Row} (h : AskAt C H a r) (e : LamX.ExtN H H') : AskAt C H' a r := h.imp fun _ z => e _ _ z fun _ y => nomatch y
theorem asks_ext {H H' : Hp} {ps : List Addr} {rs : List Row} (h : AsksAt C H ps rs) (e : LamX.ExtN H H') : AsksAt C H' ps rs := ⟨h.1, fun i p r e1 e2 => ask_ext (h.2 i p r e1 e2) e⟩
end
/-- rows at addresses -/
def AL (H : Hp) (ps : List Addr) (rs : List Row) : Prop := ps.length = rs.length ∧ ∀ (i : Nat) q r, ps[i]? = some q → rs[i]? = some r → RowAt H q r
theorem AL.mono {H H' : Hp} {ps : List Addr} {rs : List Row} (s : Same H H') (h : AL H ps rs) : AL H' ps rs := ⟨h.1, fun i q r e1 e2 => s _ _ (h.2 i q r e1 e2)⟩
theorem AL.app {H : Hp} {ps ps' : List Addr} {rs rs' : List Row} (h : AL H ps rs) (h' : AL H ps' rs') : AL H (ps ++ ps') (rs ++ rs') := by
  refine ⟨by rw [List.length_append, List.length_append, h.1, h'.1], fun i q r e1 e2 => ?_⟩
  have hl := h.1
  by_cases hi : i < ps.length
  · rw [List.getElem?_append_left hi] at e1
    rw [List.getElem?_append_left (by omega)] at e2
    exact h.2 i q r e1 e2
  · rw [List.getElem?_append_right (by omega)] at e1 e2
    rw [hl] at e1
    exact h'.2 _ q r e1 e2
theorem AL.one {H : Hp} {q : Addr} {r : Row} (h : RowAt H q r) : AL H [q] [r] := ⟨rfl, fun i q' r' e1 e2 => by
  cases i with
  | zero => cases e1; cases e2; exact h
  | succ i => cases e1⟩
theorem AL.rep {H : Hp} {q : Addr} {r : Row} (n : Nat) (h : RowAt H q r) : AL H (List.replicate n q) (List.replicate n r) := ⟨by rw [List.length_replicate, List.length_replicate], fun i q' r' e1 e2 => by
  have a := List.eq_of_mem_replicate (List.mem_of_getElem? e1)
  have b := List.eq_of_mem_replicate (List.mem_of_getElem? e2)
  rw [a, b]
  exact h⟩
theorem AL.take {H : Hp} {ps : List Addr} {rs : List Row} (n : Nat) (h : AL H ps rs) : AL H (ps.take n) (rs.take n) := ⟨by rw [List.length_take, List.length_take, h.1], fun i q r e1 e2 => by
  rw [List.getElem?_take] at e1 e2
  split at e1
  · rename_i hi
    rw [if_pos hi] at e2
    exact h.2 i q r e1 e2
  · cases e1⟩
theorem AL.drop {H : Hp} {ps : List Addr} {rs : List Row} (n : Nat) (h : AL H ps rs) : AL H (ps.drop n) (rs.drop n) := ⟨by rw [List.length_drop, List.length_drop, h.1], fun i q r e1 e2 => by
  rw [List.getElem?_drop] at e1 e2
  exact h.2 _ q r e1 e2⟩
/-- where the rows of a history that is refused stand -/
def psB (n f : Nat) (T B F : Addr) : List Addr := ((List.replicate n T).take f ++ [B] ++ (List.replicate n T).drop f) ++ [B, F]
theorem al_core {H : Hp} {n f : Nat} {t : Int} {T B F : Addr} (h1 : RowAt H T putR) (h2 : RowAt H B (badR t)) (h3 : RowAt H F fineR) : AL H (psB n f T B F) (coreB n f t) :=
  ((((AL.rep n h1).take f).app (AL.one h2)).app ((AL.rep n h1).drop f)).app ((AL.one h2).app (AL.one h3))
theorem psB_map (n f : Nat) (T B F : Addr) : (psB n f T B F).map V.ref = ((List.replicate n (V.ref T)).take f ++ [.ref B] ++ (List.replicate n (V.ref T)).drop f) ++ [.ref B, .ref F] := by
  unfold psB
  simp only [List.map_append, List.map_take, List.map_drop, List.map_replicate, List.map_cons, List.map_nil]
theorem core_head {n f : Nat} {t : Int} {T B F : Addr} (h1 : 1 ≤ n) (h : f ≤ n) : ∃ q r, (psB n f T B F)[0]? = some q ∧ (coreB n f t)[0]? = some r ∧ r.g = decide (f = 0) := by
  obtain ⟨m, rfl⟩ : ∃ m, n = m + 1 := ⟨n - 1, by omega⟩
  cases f with
  | zero => exact ⟨B, badR t, rfl, rfl, rfl⟩
  | succ f => exact ⟨T, putR, rfl, rfl, rfl⟩
def preN (f : Nat) : Nat := if f = 0 then 1 else 0
theorem preB_eq (f : Nat) : preB f = List.replicate (preN f) putR := by
  unfold preB preN
  split <;> rfl
theorem asks_kn {C p c : Addr} {cells : List Int} {n : Nat} {H H' : Hp} {ps : List Addr} {rs : List Row} (h : AsksAt C H ps rs) (pen : PenAt H p c cells n) (k : KN p H H') : AsksAt C H' ps rs := ⟨h.1, fun i q r e1 e2 => by
  obtain ⟨dx, z⟩ := h.2 i q r e1 e2
  obtain ⟨a, g, hp, _⟩ := pen.ex
  exact ⟨dx, k _ _ (fun y => by rw [y, hp] at z; cases z) z fun _ y => nomatch y⟩⟩
theorem badAt_of {rs : List Row} {i : Nat} {r : Row} (h : rs[i]? = some r) : badAt rs i = match r.t with
    | none => false
    | some j => decide ((rs.length : Int) ≤ j) || (match rs[j.toNat]? with
      | some r => r.g
      | none => true) := by
  unfold badAt
  rw [h]
  rfl
theorem st_go {t : TS} {D : Ends} {σ : L2.St} {H : Hp} (σ' : L2.St) (e : σ = σ') (h : t D σ' H) : t D σ H := by rw [e]; exact h
theorem can_askT : ∀ x ∈ askT "asks", PyData.canLay0 (.str x) = true := by
  have h : (askT "asks").all (fun x => PyData.canLay0 (.str x)) = true := by decide +kernel
  exact fun x m => List.all_eq_true.mp h x m
theorem can_manyT : ∀ x ∈ manyT, PyData.canLay0 (.str x) = true := by
  have h : manyT.all (fun x => PyData.canLay0 (.str x)) = true := by decide +kernel
  exact fun x m => List.all_eq_true.mp h x m
theorem can_askI {i : Nat} (h : i < 20) : ∀ x ∈ askI (i : Int), PyData.canLay0 (.str x) = true := fun x m => by
  unfold askI at m
  rcases List.mem_cons.mp m with rfl | m
  · decide +kernel
  rcases List.mem_cons.mp m with rfl | m
  · exact int_text h
  · cases m
theorem asks_shown : (PyData.str "asks").shown = "'asks'" := by decide +kernel
theorem thousand_shown : (PyData.int 1000).shown = "1000" := by decide +kernel
/-- the tail of the great one -/
def gTail (b m : Int) : List Row := (List.range 999).map fun (k : Nat) => ⟨"b", true, b + k, some (b + k + m), some 0⟩
theorem g_cons (b m : Int) : greatR b m = ⟨"a", false, b, some (b + 1), none⟩ :: gTail b m := rfl
theorem gTail_len (b m : Int) : (gTail b m).length = 999 := by
  unfold gTail
  rw [List.length_map, List.length_range]
theorem gTail_get (b m : Int) {k : Nat} (h : k < 999) : (gTail b m)[k]? = some ⟨"b", true, b + k, some (b + k + m), some 0⟩ := by
  unfold gTail
  rw [List.getElem?_map, List.getElem?_range h]
  rfl
theorem asks_cons {C : Addr} {H : Hp} {x : Addr} {r : Row} {ps : List Addr} {rs : List Row} (hx : AskAt C H x r) (h : AsksAt C H ps rs) : AsksAt C H (x :: ps) (r :: rs) := ⟨by rw [List.length_cons, List.length_cons, h.1], fun i q r' e1 e2 => by
  cases i with
  | zero => cases e1; cases e2; exact hx
  | succ i => exact h.2 i q r' e1 e2⟩
def rowC : Row := ⟨"c", true, 0, some 1, some 1⟩
theorem rowC_ok : rowC.Ok := row_ok' (by decide +kernel) (by decide) (fun x z => by cases z; decide) (fun x z => ⟨rfl, (fun y => nomatch y), by cases z; decide⟩)
end K34
end

section
set_option Elab.async false
set_option linter.all false
set_option maxRecDepth 100000
set_option maxHeartbeats 1000000
/-! what is no history -/
namespace K34
open PySem PySem.Spec PyProof.Rows L2 KZ
abbrev sNH : Stmt := top 33
/-- parts, zones, as they let out -/
structure PZF (P : Program) (w : World) (K : PySem.W.Frag) (mg : Str → Option Value) (base : Heap) (C cB cT : Addr) : Prop where
  p : ∃ f fd, mg "parts" = some (.ref f) ∧ FnOk P w K mg base (L2.CX P w) 8 f fd ["asks"] (spPartsD K C cB cT) ∧ PySem.W.keepIn K (.ref f) = true ∧ Binds K fd ["asks"] []
  z : ∃ f fd, mg "zones" = some (.ref f) ∧ FnOk P w K mg base (L2.CX P w) 8 f fd ["asks"] (spZones K C cB cT) ∧ PySem.W.keepIn K (.ref f) = true ∧ Binds K fd ["asks"] []
def spNH (T0 : List (Addr × Str)) : Sp := fun vs H Q _ => ∃ (p c : Addr) (cells : List Int) (n : Nat), vs = [.ref p] ∧ PenAt H p c cells n ∧ n ≤ 4500 ∧ LamX.Tabs T0 H ∧ ∀ H', Q (.bl true) H'
section
variable {P : Program} {w : World} {K : PySem.W.Frag} {mg : Str → Option Value} {base : Heap} {C cO cB cT : Addr}
theorem scNH : FnScope ["well", "ask_so", "odd", "rows", "first", "many", "bad", "fine", "some", "at", "made", "row", "spot", "k", "heard", "begun", "more", "great", "due"] ["well"] (defScope sNH) := ⟨rfl, rfl, rfl, by decide +kernel, rfl, by decide +kernel, by decide +kernel⟩
theorem ok_nh (hmd : ModsD base) {f cc Pt : Addr} {fd : FuncData} {T0 : List (Addr × Str)} (F : Fun K "_law_no_history_right" "_law_no_history_right" sNH f fd) (hcode : fd.code = .ref cc) (LA : LamAt T0 base mg cc Pt ("_law_no_history_right" ++ ".<locals>.")) (T : B1 mg) (A : AskC K mg C) (NL : NoLT K C) (L : LF P w K mg base C)
    (HF : HeardF K mg cO cB cT) (IF : InitF P w K mg base C cB) (PZ : PZF P w K mg base C cB cT) : FnG P w K mg base CX0 13 f fd ["well"] (spNH T0) := by
  obtain ⟨fD, dD, gD, GD, kD, bD⟩ := L.draw.ex
  obtain ⟨fO, dO, gO_, GO, kO, bO⟩ := L.one.ex
  obtain ⟨fM, dM, gM, GM, kM, bM⟩ := L.made.ex
  obtain ⟨fP, dP, gP, GP, kP, bP, kbP⟩ := L.parts.ex
  obtain ⟨fZ, dZ, gZ, GZ, kZ, bZ, kbZ⟩ := L.zones.ex
  obtain ⟨fPo, dPo, gPo, GPo, kPo, bPo⟩ := PZ.p
  obtain ⟨fZo, dZo, gZo, GZo, kZo, bZo⟩ := PZ.z
  obtain ⟨fI, dI, MK, GI, bI5, ⟨ds4, vI4, bI4⟩, ⟨ds3, vI3, bI3⟩, ⟨g1, kb1⟩, ⟨g4, kb4⟩⟩ := IF.ex
  let spI0 : Sp := fun vs H Q _ => spInit K C cB vs H Q fun _ _ _ => False
  have GI0 : FnOk P w K mg base CX0 8 fI dI psI spI0 := FnOk.x0 GI
  refine okGc F hcode scNH (fun vs H Q E h => ?_) (fun A' outer s0 H vs Q E hgd hr h => ?_)
  · obtain ⟨p, c, cells, n, rfl, _⟩ := h
    rfl
  · obtain ⟨p, c, cells, n, rfl, pen, hn, tabs, q⟩ := h
    have hr12 : Room 12 _ := hr
    have hr10 : Room 10 _ := hr.mono (by decide)
    have hr9 : Room 9 _ := hr.mono (by decide)
    have hr8 : Room 8 _ := hr.mono (by decide)
    have hr2 : Room 2 _ := hr.mono (by decide)
    have hr1 : Room 1 _ := hr.mono (by decide)
    refine ⟨_, (pss_cons (ps_set (i := 1) scNH.nd rfl (Or.inl rfl) (pe_make MK GI0 hr9 (by rfl) A.mg bI4 vI4 pass0 (pa_cons pe_str (pa_cons pe_str (pa_cons pe_int (pa_cons pe_int pa_nil))))))
(pss_cons (ps_set (i := 2) scNH.nd rfl (Or.inr rfl) (pe_call GO hr2 (by rfl) gO_ kO bO .nil pass0 (pa_cons (pv 0) (pa_cons (pe_lst (pa_cons pe_non (pa_cons pe_int (pa_cons pe_str (pa_cons pe_dnewK (pa_cons (pv 1) (pa_cons (pe_lst (pa_cons (pv 1) (pa_cons pe_non pa_nil))) (pa_cons (pe_tup (pa_cons (pv 1) (pa_cons pe_str pa_nil))) (pa_cons (pe_lst (pa_cons (pe_lst (pa_cons (pv 1) pa_nil)) pa_nil)) (pa_cons pe_bl pa_nil)))))))))) pa_nil))))
(pss_cons (ps_set (i := 3) scNH.nd rfl (Or.inl rfl) (pe_op op_rep (pe_lst (pa_cons (pe_tup (pa_cons pe_str (pa_cons pe_str (pa_cons pe_int (pa_cons pe_non (pa_cons pe_non pa_nil)))))) pa_nil)) (pe_op op_add pe_int (pe_call GD hr1 (by rfl) gD kD bD .nil pass0 (pa_cons (pv 0) (pa_cons pe_int pa_nil))))))
(pss_cons (ps_par (i := 4) (j := 5) (by rfl) scNH.nd rfl rfl (by decide) rfl rfl (pa_cons (pe_call GD hr1 (by rfl) gD kD bD .nil pass0 (pa_cons (pv 0) (pa_cons (pe_op op_add (pe_callB (call_lenK K) (by rfl) T.len PySem.boot_len (pa_cons (pv 3) pa_nil)) pe_int) pa_nil))) (pa_cons (pe_callB (call_lenK K) (by rfl) T.len PySem.boot_len (pa_cons (pv 3) pa_nil)) pa_nil)) (by rfl))
(pss_cons (ps_set (i := 6) scNH.nd rfl (Or.inl rfl) (pe_tup (pa_cons pe_str (pa_cons pe_str (pa_cons pe_int (pa_cons pe_int (pa_cons (pe_call GO hr2 (by rfl) gO_ kO bO .nil pass0 (pa_cons (pv 0) (pa_cons (pe_lst (pa_cons (pe_op op_add (pv 5) pe_int) (pa_cons (pe_op op_add (pv 5) pe_int) (pa_cons (pe_op op_add (pv 5) pe_int) (pa_cons (pe_op op_pow pe_int pe_int) pa_nil))))) pa_nil))) pa_nil)))))))
(pss_cons (ps_set (i := 7) scNH.nd rfl (Or.inl rfl) (pe_tup (pa_cons pe_str (pa_cons pe_str (pa_cons pe_int (pa_cons pe_int (pa_cons pe_int pa_nil)))))))
(pss_cons (ps_set (i := 8) scNH.nd rfl (Or.inr rfl) (pe_op op_cat (pe_op op_cat (pe_op op_cat (pe_slice sl_list (pv 3) po_none (po_some (pv 4))) (pe_lst (pa_cons (pv 6) pa_nil))) (pe_slice sl_list (pv 3) (po_some (pv 4)) po_none)) (pe_lst (pa_cons (pv 6) (pa_cons (pv 7) pa_nil)))))
(pss_cons (ps_set (i := 9) scNH.nd rfl (Or.inl rfl) (pe_callTy call_int1 (by rfl) T.int (by decide +kernel) (pa_cons (pe_cmpR op_eq (pe_ix (ix_seqK K) (pe_ix (ix_seqK K) (pv 8) pe_int (fun _ _ => rfl)) pe_int (fun _ _ => rfl)) pe_str (nomark _)) pa_nil)))
(pss_cons (ps_set (i := 8) scNH.nd rfl (Or.inr rfl) (pe_op op_cat (pe_op op_rep (pe_lst (pa_cons (pe_tup (pa_cons pe_str (pa_cons pe_str (pa_cons pe_int (pa_cons pe_non (pa_cons pe_non pa_nil)))))) pa_nil)) (pv 9)) (pv 8)))
(pss_cons (ps_set (i := 10) scNH.nd rfl (Or.inr rfl) (pe_lc (own := [("row", 11)]) (g := gName 11) (tt := tYes) (by rfl) scNH.nd (pi_list (pv 8)) (blkOk_by (own := [("row", 11)]) (N := ["well", "ask_so", "odd", "rows", "first", "many", "bad", "fine", "some", "at", "made", "row", "spot", "k", "heard", "begun", "more", "great", "due"]) (sc := defScope sNH) (by decide +kernel)) (fun _ _ _ _ _ => pg_name (i := 11) scNH.nd rfl (Or.inl rfl)) (fun _ _ _ _ _ => pts_nil) (fun _ _ _ _ _ => pe_call GM hr10 (by rfl) gM kM bM .nil pass0 (pa_cons (pv 11) pa_nil))))
(pss_cons (ps_set (i := 12) scNH.nd rfl (Or.inl rfl) (pe_ix (ix_seqK K) (pe_lc (own := [("k", 13), ("row", 11)]) (by rfl) scNH.nd (pi_enum (by rfl) T.enum (pa_cons (pv 8) pa_nil)) (blkOk_by (own := [("k", 13), ("row", 11)]) (N := ["well", "ask_so", "odd", "rows", "first", "many", "bad", "fine", "some", "at", "made", "row", "spot", "k", "heard", "begun", "more", "great", "due"]) (sc := defScope sNH) (by decide +kernel)) (fun _ _ _ _ _ => pg_tupK (n := 2) K rfl ((pgs_cons (pg_name (i := 13) scNH.nd rfl (Or.inl rfl)) (pgs_cons (pg_name (i := 11) scNH.nd rfl (Or.inl rfl)) pgs_nil)))) (fun _ _ _ _ _ => pts_one (PW.pt (pw_and (pt_cmpR op_notN (pe_ix (ix_seqK K) (pv 11) pe_int (fun _ _ => rfl)) pe_non (nomark _)) (pw_and1 (PW.pt (pw_or (pt_cmpR op_ge (pe_ix (ix_seqK K) (pv 11) pe_int (fun _ _ => rfl)) (pe_callB (call_lenK K) (by rfl) T.len PySem.boot_len (pa_cons (pv 8) pa_nil)) (nomark _)) (pw_or1 (pt_cmpR op_eq (pe_ix (ix_seqK K) (pe_ix (ix_seqK K) (pv 8) (pe_ix (ix_seqK K) (pv 11) pe_int (fun _ _ => rfl)) (fun _ _ => rfl)) pe_int (fun _ _ => rfl)) pe_str (nomark _))))))))) (fun _ _ _ _ _ => pv 13)) pe_int (fun _ _ => rfl)))
(pss_cons (ps_set (i := 14) scNH.nd rfl (Or.inl rfl) (pe_lst (pa_cons (pe_heard (t := fun E_ => tCall (spPartsD K C cB cT) [] E_ (tCons (tVar 2) tNil)) HF LA T hmd hgd hr12 (by rfl) rfl (LamX.lamS_by (sc := defScope sNH) (by decide +kernel)) rfl (fun _ _ _ _ _ => rfl) (fun A_ outer_ s_ H_ E_ f_ c_ hr_ => pe_call GPo (hr_.mono (by decide)) (by rfl) gPo kPo bPo .nil (passes_call (takes_of rfl rfl rfl rfl) fun _ _ _ _ z => z) (pa_cons (pv 2) pa_nil))) pa_nil)))
(pss_cons (ps_expr (pe_bm PySem.F.plainAttrs_list PySem.F.slot_list_append PySem.F.type_list_append mt_append (pv 14) (pa_cons (pe_heard (t := fun E_ => tCall (spZones K C cB cT) [] E_ (tCons (tVar 2) tNil)) HF LA T hmd hgd hr12 (by rfl) rfl (LamX.lamS_by (sc := defScope sNH) (by decide +kernel)) rfl (fun _ _ _ _ _ => rfl) (fun A_ outer_ s_ H_ E_ f_ c_ hr_ => pe_call GZo (hr_.mono (by decide)) (by rfl) gZo kZo bZo .nil (passes_call (takes_of rfl rfl rfl rfl) fun _ _ _ _ z => z) (pa_cons (pv 2) pa_nil))) pa_nil)))
(pss_cons (ps_expr (pe_bm PySem.F.plainAttrs_list PySem.F.slot_list_append PySem.F.type_list_append mt_append (pv 14) (pa_cons (pe_heard (t := fun E_ => tCall (spPartsD K C cB cT) [] E_ (tCons (tVar 10) tNil)) HF LA T hmd hgd hr12 (by rfl) rfl (LamX.lamS_by (sc := defScope sNH) (by decide +kernel)) rfl (fun _ _ _ _ _ => rfl) (fun A_ outer_ s_ H_ E_ f_ c_ hr_ => pe_call GPo (hr_.mono (by decide)) (by rfl) gPo kPo bPo .nil (passes_call (takes_of rfl rfl rfl rfl) fun _ _ _ _ z => z) (pa_cons (pv 10) pa_nil))) pa_nil)))
(pss_cons (ps_expr (pe_bm PySem.F.plainAttrs_list PySem.F.slot_list_append PySem.F.type_list_append mt_append (pv 14) (pa_cons (pe_heard (t := fun E_ => tCall (spZones K C cB cT) [] E_ (tCons (tCB (rTupOf K) (tCons (tVar 10) tNil)) tNil)) HF LA T hmd hgd hr12 (by rfl) rfl (LamX.lamS_by (sc := defScope sNH) (by decide +kernel)) rfl (fun _ _ _ _ _ => rfl) (fun A_ outer_ s_ H_ E_ f_ c_ hr_ => pe_call GZo (hr_.mono (by decide)) (by rfl) gZo kZo bZo .nil (passes_call (takes_of rfl rfl rfl rfl) fun _ _ _ _ z => z) (pa_cons (pe_callTy (call_tupK K) (by rfl) T.tuple (by decide +kernel) (pa_cons (pv 10) pa_nil)) pa_nil))) pa_nil)))
(pss_cons (ps_if (pt_cmpR (op_neD hr.units) (pv 14) (pe_op op_cat (pe_op op_rep (pe_lst (pa_cons (pe_tup (pa_cons pe_str (pa_cons pe_str pa_nil))) pa_nil)) pe_int) (pe_op op_rep (pe_lst (pa_cons (pe_tup (pa_cons pe_str (pa_cons (pe_callB (call_reprK K hgd hr.units hmd) (by rfl) T.repr (by decide +kernel) (pa_cons (pv 12) pa_nil)) pa_nil))) pa_nil)) pe_int)) (nomark _))
(pss_one (ps_ret pe_bl))
pss_nil)
(pss_cons (ps_if (pt_cmpR op_gt (pe_call GD hr1 (by rfl) gD kD bD .nil pass0 (pa_cons (pv 0) (pa_cons pe_int pa_nil))) pe_int (nomark _))
(pss_one (ps_ret pe_bl))
pss_nil)
(pss_cons (ps_asg (pe_tup (pa_cons (pe_call GD hr1 (by rfl) gD kD bD .nil pass0 (pa_cons (pv 0) (pa_cons pe_int pa_nil))) (pa_cons (pe_op op_add pe_int (pe_call GD hr1 (by rfl) gD kD bD .nil pass0 (pa_cons (pv 0) (pa_cons pe_int pa_nil)))) pa_nil))) (pg_tup rfl (pgs_cons (pg_name (i := 15) scNH.nd rfl (Or.inr rfl)) (pgs_cons (pg_name (i := 16) scNH.nd rfl (Or.inr rfl)) pgs_nil))))
(pss_cons (ps_set (i := 17) scNH.nd rfl (Or.inr rfl) (pe_op op_cat (pe_lst (pa_cons (pe_make MK GI0 hr9 (by rfl) A.mg bI4 vI4 pass0 (pa_cons pe_str (pa_cons pe_str (pa_cons (pv 15) (pa_cons (pe_op op_add (pv 15) pe_int) pa_nil))))) pa_nil)) (pe_lc (own := [("k", 13)]) (g := gName 13) (tt := tYes) (by rfl) scNH.nd (pi_range1 (by rfl) T.range (pa_cons pe_int pa_nil)) (blkOk_by (own := [("k", 13)]) (N := ["well", "ask_so", "odd", "rows", "first", "many", "bad", "fine", "some", "at", "made", "row", "spot", "k", "heard", "begun", "more", "great", "due"]) (sc := defScope sNH) (by decide +kernel)) (fun _ _ _ _ _ => pg_name (i := 13) scNH.nd rfl (Or.inl rfl)) (fun _ _ _ _ _ => pts_nil) (fun _ _ _ _ _ => pe_make MK GI0 hr9 (by rfl) A.mg bI5 .nil pass0 (pa_cons pe_str (pa_cons pe_str (pa_cons (pe_op op_add (pv 15) (pv 13)) (pa_cons (pe_op op_add (pe_op op_add (pv 15) (pv 13)) (pv 16)) (pa_cons pe_int pa_nil)))))))))
(pss_cons (ps_set (i := 18) scNH.nd rfl (Or.inl rfl) (pe_tup (pa_cons (pe_tup (pa_cons pe_int (pa_cons (pe_op op_add (pv 15) pe_int) (pa_cons (pe_op op_add (pv 15) pe_int) pa_nil)))) pa_nil)))
(pss_cons (ps_if (PW.pt (pw_or (pt_cmpR op_ne (pe_callB (call_reprK K hgd hr.units hmd) (by rfl) T.repr (by decide +kernel) (pa_cons (pe_call GP hr8 (by rfl) gP kP bP .nil pass0 (pa_cons (pv 17) pa_nil)) pa_nil)) (pe_callB (call_reprK K hgd hr.units hmd) (by rfl) T.repr (by decide +kernel) (pa_cons (pe_tupRg rfl (by rfl) T.tuple (prg_1 (by rfl) T.range pe_int)) pa_nil)) (nomark _)) (pw_or1 (pt_cmpR op_ne (pe_callB (call_reprK K hgd hr.units hmd) (by rfl) T.repr (by decide +kernel) (pa_cons (pe_call GZ hr8 (by rfl) gZ kZ bZ .nil pass0 (pa_cons (pv 17) pa_nil)) pa_nil)) (pe_callB (call_reprK K hgd hr.units hmd) (by rfl) T.repr (by decide +kernel) (pa_cons (pv 18) pa_nil)) (nomark _)))))
(pss_one (ps_ret pe_bl))
pss_nil)
(pss_cons (ps_set (i := 14) scNH.nd rfl (Or.inl rfl) (pe_lst (pa_cons (pe_heard (t := fun E_ => tCall (spZones K C cB cT) [] E_ (tCons (tOp rCat (tVar 17) (tLst (tCons (tMake C spI0 [] E0 (tCons (tC (.str "c")) (tCons (tC (.str "get")) (tCons (tC (.int 0)) (tCons (tC (.int 1)) (tCons (tC (.int 1)) tNil)))))) tNil))) tNil)) HF LA T hmd hgd hr12 (by rfl) rfl (LamX.lamS_by (sc := defScope sNH) (by decide +kernel)) rfl (fun _ _ _ _ _ => rfl) (fun A_ outer_ s_ H_ E_ f_ c_ hr_ => pe_call GZo (hr_.mono (by decide)) (by rfl) gZo kZo bZo .nil (passes_call (takes_of rfl rfl rfl rfl) fun _ _ _ _ z => z) (pa_cons (pe_op op_cat (pv 17) (pe_lst (pa_cons (pe_make MK GI0 (hr_.mono (by decide)) (by rfl) A.mg bI5 .nil pass0 (pa_cons pe_str (pa_cons pe_str (pa_cons pe_int (pa_cons pe_int (pa_cons pe_int pa_nil)))))) pa_nil))) pa_nil))) pa_nil)))
(pss_cons (ps_expr (pe_bm PySem.F.plainAttrs_list PySem.F.slot_list_append PySem.F.type_list_append mt_append (pv 14) (pa_cons (pe_heard (t := fun E_ => tCall (spPartsD K C cB cT) [] E_ (tCons (tOp rCat (tVar 17) (tLst (tCons (tC .non) tNil))) tNil)) HF LA T hmd hgd hr12 (by rfl) rfl (LamX.lamS_by (sc := defScope sNH) (by decide +kernel)) rfl (fun _ _ _ _ _ => rfl) (fun A_ outer_ s_ H_ E_ f_ c_ hr_ => pe_call GPo (hr_.mono (by decide)) (by rfl) gPo kPo bPo .nil (passes_call (takes_of rfl rfl rfl rfl) fun _ _ _ _ z => z) (pa_cons (pe_op op_cat (pv 17) (pe_lst (pa_cons pe_non pa_nil))) pa_nil))) pa_nil)))
(pss_one (ps_ret (pe_cmpR (op_eqD hr.units) (pv 14) (pe_lst (pa_cons (pe_tup (pa_cons pe_str (pa_cons pe_str (pa_cons pe_str pa_nil)))) (pa_cons (pe_tup (pa_cons pe_str (pa_cons pe_str pa_nil))) pa_nil))) (nomark _))))))))))))))))))))))))))), ?_⟩
    refine fun AS dx hx hdx ne => mk_row (r := ⟨"a", false, 0, some 1, none⟩) (row_ok' (by decide +kernel) (by decide) (fun x z => by cases z; decide) (fun x z => nomatch z)) (show ("a" : Str).length ≤ 1000 by decide +kernel) hx hdx ne fun H1 s1 ask => ⟨rfl, ?_⟩
    replace pen := pen.mono s1 (Nat.le_refl _)
    replace tabs := tabs_same tabs s1
    obtain ⟨dxA, fAS⟩ := ask
    have nAS : AS ≠ p := fun z => by
      obtain ⟨a_, g_, hp_, _⟩ := pen.ex
      rw [z, hp_] at fAS
      cases fAS
    clear s1 hx hdx ne
    refine ⟨.ref p, rfl, fun DD hDD => ?_⟩
    have sN := same_new (o := .dK []) hDD
    have fDD : upd H1 DD (.dK []) DD = some (.dK []) := upd_same
    have nDD := (pen.nn hDD).1
    replace fAS := sN _ _ fAS
    replace pen := pen.mono sN (Nat.le_refl _)
    replace tabs := tabs_same tabs sN
    clear sN hDD
    generalize upd H1 DD (.dK []) = G1 at pen tabs fAS fDD  ⊢
    refine ⟨.ref AS, rfl, .ref AS, rfl, by show 2 ≤ sizeLine; decide, fun L2 hL2 => ?_⟩
    have sN := same_new (o := .lst [.ref AS, .non]) hL2
    have fL2 : upd G1 L2 (.lst [.ref AS, .non]) L2 = some (.lst [.ref AS, .non]) := upd_same
    have nL2 := (pen.nn hL2).1
    replace fAS := sN _ _ fAS
    replace fDD := sN _ _ fDD
    replace pen := pen.mono sN (Nat.le_refl _)
    replace tabs := tabs_same tabs sN
    clear sN hL2
    generalize upd G1 L2 (.lst [.ref AS, .non]) = G2 at pen tabs fAS fDD fL2  ⊢
    refine ⟨.ref AS, rfl, by show 2 ≤ sizeLine; decide, fun T2 hT2 => ?_⟩
    have sN := same_new (o := .tup [.ref AS, .str "put"]) hT2
    have fT2 : upd G2 T2 (.tup [.ref AS, .str "put"]) T2 = some (.tup [.ref AS, .str "put"]) := upd_same
    have nT2 := (pen.nn hT2).1
    replace fAS := sN _ _ fAS
    replace fDD := sN _ _ fDD
    replace fL2 := sN _ _ fL2
    replace pen := pen.mono sN (Nat.le_refl _)
    replace tabs := tabs_same tabs sN
    clear sN hT2
    generalize upd G2 T2 (.tup [.ref AS, .str "put"]) = G3 at pen tabs fAS fDD fL2 fT2  ⊢
    refine ⟨.ref AS, rfl, by show 1 ≤ sizeLine; decide, fun L3 hL3 => ?_⟩
    have sN := same_new (o := .lst [.ref AS]) hL3
    have fL3 : upd G3 L3 (.lst [.ref AS]) L3 = some (.lst [.ref AS]) := upd_same
    have nL3 := (pen.nn hL3).1
    replace fAS := sN _ _ fAS
    replace fDD := sN _ _ fDD
    replace fL2 := sN _ _ fL2
    replace fT2 := sN _ _ fT2
    replace pen := pen.mono sN (Nat.le_refl _)
    replace tabs := tabs_same tabs sN
    clear sN hL3
    generalize upd G3 L3 (.lst [.ref AS]) = G4 at pen tabs fAS fDD fL2 fT2 fL3  ⊢
    refine ⟨by show 1 ≤ sizeLine; decide, fun L4 hL4 => ?_⟩
    have sN := same_new (o := .lst [.ref L3]) hL4
    have fL4 : upd G4 L4 (.lst [.ref L3]) L4 = some (.lst [.ref L3]) := upd_same
    have nL4 := (pen.nn hL4).1
    replace fAS := sN _ _ fAS
    replace fDD := sN _ _ fDD
    replace fL2 := sN _ _ fL2
    replace fT2 := sN _ _ fT2
    replace fL3 := sN _ _ fL3
    replace pen := pen.mono sN (Nat.le_refl _)
    replace tabs := tabs_same tabs sN
    clear sN hL4
    generalize upd G4 L4 (.lst [.ref L3]) = G5 at pen tabs fAS fDD fL2 fT2 fL3 fL4  ⊢
    refine ⟨by show 9 ≤ sizeLine; decide, fun LO hLO => ?_⟩
    have sN := same_new (o := .lst [.non, .int 0, .str "ask", .ref DD, .ref AS, .ref L2, .ref T2, .ref L4, .bl true]) hLO
    have fLO : upd G5 LO (.lst [.non, .int 0, .str "ask", .ref DD, .ref AS, .ref L2, .ref T2, .ref L4, .bl true]) LO = some (.lst [.non, .int 0, .str "ask", .ref DD, .ref AS, .ref L2, .ref T2, .ref L4, .bl true]) := upd_same
    have nLO := (pen.nn hLO).1
    replace fAS := sN _ _ fAS
    replace fDD := sN _ _ fDD
    replace fL2 := sN _ _ fL2
    replace fT2 := sN _ _ fT2
    replace fL3 := sN _ _ fL3
    replace fL4 := sN _ _ fL4
    replace pen := pen.mono sN (Nat.le_refl _)
    replace tabs := tabs_same tabs sN
    clear sN hLO
    generalize upd G5 LO (.lst [.non, .int 0, .str "ask", .ref DD, .ref AS, .ref L2, .ref T2, .ref L4, .bl true]) = G6 at pen tabs fAS fDD fL2 fT2 fL3 fL4 fLO  ⊢
    refine ⟨p, c, LO, cells, _, _, rfl, pen, by omega, fLO, nLO, by show 0 < 9; decide, by show 9 ≤ 100; decide, fun j xo HA ex pn kp => ?_⟩
    replace fAS := kp _ _ nAS fAS
    replace fDD := kp _ _ nDD fDD
    replace fL2 := kp _ _ nL2 fL2
    replace fT2 := kp _ _ nT2 fT2
    replace fL3 := kp _ _ nL3 fL3
    replace fL4 := kp _ _ nL4 fL4
    replace fLO := kp _ _ nLO fLO
    replace tabs := tabs_kept tabs pen kp
    replace pen := pn
    clear kp pn
    have od : ∀ H', KN p HA H' → BadH K C xo H' := by
      have nt : ∀ {o : HO}, (∀ ps, o ≠ .tbl ps) → True := fun _ => True.intro
      rcases j with _ | _ | _ | _ | _ | _ | _ | _ | _ | j
      · cases ex
        exact fun H' k => .inl ⟨.type "NoneType", .base (.non), (NL.ts "NoneType" (by simp)).1, (NL.ts "NoneType" (by simp)).2⟩
      · cases ex
        exact fun H' k => .inl ⟨.type "int", .base (.int _), (NL.ts "int" (by simp)).1, (NL.ts "int" (by simp)).2⟩
      · cases ex
        exact fun H' k => .inl ⟨.type "str", .base (.str _), (NL.ts "str" (by simp)).1, (NL.ts "str" (by simp)).2⟩
      · cases ex
        exact fun H' k => .inl ⟨.type "dict", .base (TyOf.dK (k _ _ nDD fDD fun _ z => nomatch z)), (NL.ts "dict" (by simp)).1, (NL.ts "dict" (by simp)).2⟩
      · cases ex
        exact fun H' k => .inl ⟨.ref C, .base (A.ty H' AS dxA _ (k _ _ nAS fAS fun _ z => nomatch z)), NL.c.1, NL.c.2⟩
      · cases ex
        exact fun H' k => badh_pair (.inl (SqL.of (k _ _ nL2 fL2 fun _ z => nomatch z))) (.base (A.ty H' AS dxA _ (k _ _ nAS fAS fun _ z => nomatch z))) A.me (.base .non) (A.no "NoneType" (by simp)) (fun z => nomatch z)
      · cases ex
        exact fun H' k => badh_pair (.inr (SqT.of (k _ _ nT2 fT2 fun _ z => nomatch z))) (.base (A.ty H' AS dxA _ (k _ _ nAS fAS fun _ z => nomatch z))) A.me (.base (.str _)) (A.no "str" (by simp)) (fun z => nomatch z)
      · cases ex
        exact fun H' k => badh_one (.inl (SqL.of (k _ _ nL4 fL4 fun _ z => nomatch z))) (.base (.lst (k _ _ nL3 fL3 fun _ z => nomatch z))) (A.no "list" (by simp))
      · cases ex
        exact fun H' k => .inl ⟨.type "bool", .base (.bl _), (NL.ts "bool" (by simp)).1, (NL.ts "bool" (by simp)).2⟩
      · cases ex
    clear fLO nLO fL4 nL4 fL3 nL3 fT2 nT2 fL2 nL2 fDD nDD fAS nAS
    clear ex dxA
    refine ⟨by show 5 ≤ sizeLine; decide, fun T hT => ?_⟩
    have sN := same_new (o := .tup [.str "a", .str "put", .int 0, .non, .non]) hT
    have fT : upd HA T (.tup [.str "a", .str "put", .int 0, .non, .non]) T = some (.tup [.str "a", .str "put", .int 0, .non, .non]) := upd_same
    have nT := (pen.nn hT).1
    replace od := fun H' k => od H' ((KN.same sN).trans k)
    replace pen := pen.mono sN (Nat.le_refl _)
    replace tabs := tabs_same tabs sN
    clear sN hT
    generalize upd HA T (.tup [.str "a", .str "put", .int 0, .non, .non]) = G7 at pen tabs fT od ⊢
    refine ⟨by show 1 ≤ sizeLine; decide, fun L hL => ?_⟩
    have sN := same_new (o := .lst [.ref T]) hL
    have fL : upd G7 L (.lst [.ref T]) L = some (.lst [.ref T]) := upd_same
    have nL := (pen.nn hL).1
    replace fT := sN _ _ fT
    replace od := fun H' k => od H' ((KN.same sN).trans k)
    replace pen := pen.mono sN (Nat.le_refl _)
    replace tabs := tabs_same tabs sN
    clear sN hL
    generalize upd G7 L (.lst [.ref T]) = G8 at pen tabs fT fL od ⊢
    refine ⟨.ref p, rfl, p, c, cells, _, 4, rfl, pen, by omega, by decide, by decide, fun d HB d0 d1 pn kp => ⟨1, d, rfl, rfl, L, 1 + d, _, rfl, rfl, kp _ _ nL fL, by omega, by omega, ?_, fun R hR => ?_⟩⟩
    · exact Nat.le_trans (show 1 * (1 + d).toNat ≤ 10 by omega) (by decide)
    replace fT := kp _ _ nT fT
    replace fL := kp _ _ nL fL
    replace od := fun H' k => od H' ((KN.kept kp).trans k)
    replace tabs := tabs_kept tabs pen kp
    replace pen := pn
    clear kp pn
    obtain ⟨nn, hnn, n1, n4⟩ : ∃ nn : Nat, 1 + d = (nn : Int) ∧ 1 ≤ nn ∧ nn ≤ 4 := ⟨(1 + d).toNat, by omega, by omega, by omega⟩
    rw [hnn, Int.toNat_natCast, flat_rep] at *
    clear hnn d0 d1
    clear fL nL
    have sN := same_new (o := .lst (List.replicate nn (.ref T))) hR
    have fR : upd HB R (.lst (List.replicate nn (.ref T))) R = some (.lst (List.replicate nn (.ref T))) := upd_same
    have nR := (pen.nn hR).1
    replace fT := sN _ _ fT
    replace od := fun H' k => od H' ((KN.same sN).trans k)
    replace pen := pen.mono sN (Nat.le_refl _)
    replace tabs := tabs_same tabs sN
    clear sN hR
    generalize upd HB R (.lst (List.replicate nn (.ref T))) = G9 at pen tabs fT fR od ⊢
    refine ⟨.ref p, rfl, .ref R, rfl, .ref R, nn, rfl, .inl ⟨_, SqL.of fR, List.length_replicate.symm⟩, (nn : Int), 1, rfl, rfl, p, c, cells, _, (nn : Int) + 1, rfl, pen, by omega, by omega, by omega, fun fi HC f0 f1 pn kp => ⟨.ref R, rfl, .ref R, nn, rfl, .inl ⟨_, SqL.of (kp _ _ nR fR), List.length_replicate.symm⟩, _, _, rfl, ?_⟩⟩
    replace fT := kp _ _ nT fT
    replace fR := kp _ _ nR fR
    replace od := fun H' k => od H' ((KN.kept kp).trans k)
    replace tabs := tabs_kept tabs pen kp
    replace pen := pn
    clear kp pn
    obtain ⟨ff, rfl, f2⟩ : ∃ ff : Nat, fi = (ff : Int) ∧ ff ≤ nn := ⟨fi.toNat, by omega, by omega⟩
    clear f0 f1
    refine ⟨.ref p, rfl, _, rfl, (nn : Int), 3, rfl, rfl, _, rfl, (nn : Int), 4, rfl, rfl, _, rfl, (nn : Int), 2, rfl, rfl, 10, 15, rfl, rfl, ⟨by decide, by decide, by decide⟩, by show 4 ≤ sizeLine; decide, fun LB hLB => ?_⟩
    have sN := same_new (o := .lst [.int ((nn : Int) + 3), .int ((nn : Int) + 4), .int ((nn : Int) + 2), .int (10 ^ (15 : Int).toNat)]) hLB
    have fLB : upd HC LB (.lst [.int ((nn : Int) + 3), .int ((nn : Int) + 4), .int ((nn : Int) + 2), .int (10 ^ (15 : Int).toNat)]) LB = some (.lst [.int ((nn : Int) + 3), .int ((nn : Int) + 4), .int ((nn : Int) + 2), .int (10 ^ (15 : Int).toNat)]) := upd_same
    have nLB := (pen.nn hLB).1
    replace fT := sN _ _ fT
    replace fR := sN _ _ fR
    replace od := fun H' k => od H' ((KN.same sN).trans k)
    replace pen := pen.mono sN (Nat.le_refl _)
    replace tabs := tabs_same tabs sN
    clear sN hLB
    generalize upd HC LB (.lst [.int ((nn : Int) + 3), .int ((nn : Int) + 4), .int ((nn : Int) + 2), .int (10 ^ (15 : Int).toNat)]) = G10 at pen tabs fT fR fLB od ⊢
    refine ⟨p, c, LB, cells, _, _, rfl, pen, by omega, fLB, nLB, by show 0 < 4; decide, by show 4 ≤ 100; decide, fun j xt HD ex pn kp => ?_⟩
    replace fT := kp _ _ nT fT
    replace fR := kp _ _ nR fR
    replace fLB := kp _ _ nLB fLB
    replace od := fun H' k => od H' ((KN.kept kp).trans k)
    replace tabs := tabs_kept tabs pen kp
    replace pen := pn
    clear kp pn
    obtain ⟨t, rfl, ht⟩ : ∃ t : Int, xt = .int t ∧ (t = (nn : Int) + 3 ∨ t = (nn : Int) + 4 ∨ t = (nn : Int) + 2 ∨ t = 10 ^ (15 : Int).toNat) := by
      rcases j with _ | _ | _ | _ | j
      · exact ⟨_, (Option.some.inj ex).symm, .inl rfl⟩
      · exact ⟨_, (Option.some.inj ex).symm, .inr (.inl rfl)⟩
      · exact ⟨_, (Option.some.inj ex).symm, .inr (.inr (.inl rfl))⟩
      · exact ⟨_, (Option.some.inj ex).symm, .inr (.inr (.inr rfl))⟩
      · cases ex
    clear ex
    clear fLB nLB
    have t0 : 0 ≤ t := by
      rcases ht with z | z | z | z
      · omega
      · omega
      · omega
      · rw [z]; decide
    refine ⟨by show 5 ≤ sizeLine; decide, fun TB hTB => ?_⟩
    have sN := same_new (o := .tup [.str "b", .str "get", .int 1, .int 2, .int t]) hTB
    have fTB : upd HD TB (.tup [.str "b", .str "get", .int 1, .int 2, .int t]) TB = some (.tup [.str "b", .str "get", .int 1, .int 2, .int t]) := upd_same
    have nTB := (pen.nn hTB).1
    replace fT := sN _ _ fT
    replace fR := sN _ _ fR
    replace od := fun H' k => od H' ((KN.same sN).trans k)
    replace pen := pen.mono sN (Nat.le_refl _)
    replace tabs := tabs_same tabs sN
    clear sN hTB
    generalize upd HD TB (.tup [.str "b", .str "get", .int 1, .int 2, .int t]) = G11 at pen tabs fT fR fTB od ⊢
    refine ⟨by show 5 ≤ sizeLine; decide, fun TF hTF => ?_⟩
    have sN := same_new (o := .tup [.str "c", .str "get", .int 1, .int 2, .int 0]) hTF
    have fTF : upd G11 TF (.tup [.str "c", .str "get", .int 1, .int 2, .int 0]) TF = some (.tup [.str "c", .str "get", .int 1, .int 2, .int 0]) := upd_same
    have nTF := (pen.nn hTF).1
    replace fT := sN _ _ fT
    replace fR := sN _ _ fR
    replace fTB := sN _ _ fTB
    replace od := fun H' k => od H' ((KN.same sN).trans k)
    replace pen := pen.mono sN (Nat.le_refl _)
    replace tabs := tabs_same tabs sN
    clear sN hTF
    generalize upd G11 TF (.tup [.str "c", .str "get", .int 1, .int 2, .int 0]) = G12 at pen tabs fT fR fTB fTF od ⊢
    refine ⟨.ref R, rfl, _, rfl, (ff : Int), rfl, R, _, rfl, SqL.of fR, fun S1 hS1 => ?_⟩
    rw [cut_take (by rw [List.length_replicate]; exact f2)]
    have sN := same_new (o := .lst ((List.replicate nn (V.ref T)).take ff)) hS1
    have fS1 : upd G12 S1 (.lst ((List.replicate nn (V.ref T)).take ff)) S1 = some (.lst ((List.replicate nn (V.ref T)).take ff)) := upd_same
    have nS1 := (pen.nn hS1).1
    replace fT := sN _ _ fT
    replace fR := sN _ _ fR
    replace fTB := sN _ _ fTB
    replace fTF := sN _ _ fTF
    replace od := fun H' k => od H' ((KN.same sN).trans k)
    replace pen := pen.mono sN (Nat.le_refl _)
    replace tabs := tabs_same tabs sN
    clear sN hS1
    generalize upd G12 S1 (.lst ((List.replicate nn (V.ref T)).take ff)) = G13 at pen tabs fT fR fTB fTF fS1 od ⊢
    refine ⟨.ref TB, rfl, by show 1 ≤ sizeLine; decide, fun B1 hB1 => ?_⟩
    have sN := same_new (o := .lst [.ref TB]) hB1
    have fB1 : upd G13 B1 (.lst [.ref TB]) B1 = some (.lst [.ref TB]) := upd_same
    have nB1 := (pen.nn hB1).1
    replace fT := sN _ _ fT
    replace fR := sN _ _ fR
    replace fTB := sN _ _ fTB
    replace fTF := sN _ _ fTF
    replace fS1 := sN _ _ fS1
    replace od := fun H' k => od H' ((KN.same sN).trans k)
    replace pen := pen.mono sN (Nat.le_refl _)
    replace tabs := tabs_same tabs sN
    clear sN hB1
    generalize upd G13 B1 (.lst [.ref TB]) = G14 at pen tabs fT fR fTB fTF fS1 fB1 od ⊢
    refine ⟨S1, B1, _, _, rfl, rfl, fS1, fB1, (by simp only [List.length_append, List.length_take, List.length_drop, List.length_replicate, List.length_cons, List.length_nil]; exact Nat.le_trans (show _ ≤ 20 by omega) (by decide)), fun C1 hC1 => ?_⟩
    have sN := same_new (o := .lst ((List.replicate nn (V.ref T)).take ff ++ [.ref TB])) hC1
    have fC1 : upd G14 C1 (.lst ((List.replicate nn (V.ref T)).take ff ++ [.ref TB])) C1 = some (.lst ((List.replicate nn (V.ref T)).take ff ++ [.ref TB])) := upd_same
    have nC1 := (pen.nn hC1).1
    replace fT := sN _ _ fT
    replace fR := sN _ _ fR
    replace fTB := sN _ _ fTB
    replace fTF := sN _ _ fTF
    replace fS1 := sN _ _ fS1
    replace fB1 := sN _ _ fB1
    replace od := fun H' k => od H' ((KN.same sN).trans k)
    replace pen := pen.mono sN (Nat.le_refl _)
    replace tabs := tabs_same tabs sN
    clear sN hC1
    generalize upd G14 C1 (.lst ((List.replicate nn (V.ref T)).take ff ++ [.ref TB])) = G15 at pen tabs fT fR fTB fTF fS1 fB1 fC1 od ⊢
    refine ⟨.ref R, rfl, _, rfl, (ff : Int), rfl, R, _, rfl, SqL.of fR, fun S2 hS2 => ?_⟩
    rw [cut_drop (by rw [List.length_replicate]; exact f2)]
    have sN := same_new (o := .lst ((List.replicate nn (V.ref T)).drop ff)) hS2
    have fS2 : upd G15 S2 (.lst ((List.replicate nn (V.ref T)).drop ff)) S2 = some (.lst ((List.replicate nn (V.ref T)).drop ff)) := upd_same
    have nS2 := (pen.nn hS2).1
    replace fT := sN _ _ fT
    replace fR := sN _ _ fR
    replace fTB := sN _ _ fTB
    replace fTF := sN _ _ fTF
    replace fS1 := sN _ _ fS1
    replace fB1 := sN _ _ fB1
    replace fC1 := sN _ _ fC1
    replace od := fun H' k => od H' ((KN.same sN).trans k)
    replace pen := pen.mono sN (Nat.le_refl _)
    replace tabs := tabs_same tabs sN
    clear sN hS2
    generalize upd G15 S2 (.lst ((List.replicate nn (V.ref T)).drop ff)) = G16 at pen tabs fT fR fTB fTF fS1 fB1 fC1 fS2 od ⊢
    refine ⟨C1, S2, _, _, rfl, rfl, fC1, fS2, (by simp only [List.length_append, List.length_take, List.length_drop, List.length_replicate, List.length_cons, List.length_nil]; exact Nat.le_trans (show _ ≤ 20 by omega) (by decide)), fun C2 hC2 => ?_⟩
    have sN := same_new (o := .lst ((List.replicate nn (V.ref T)).take ff ++ [.ref TB] ++ (List.replicate nn (V.ref T)).drop ff)) hC2
    have fC2 : upd G16 C2 (.lst ((List.replicate nn (V.ref T)).take ff ++ [.ref TB] ++ (List.replicate nn (V.ref T)).drop ff)) C2 = some (.lst ((List.replicate nn (V.ref T)).take ff ++ [.ref TB] ++ (List.replicate nn (V.ref T)).drop ff)) := upd_same
    have nC2 := (pen.nn hC2).1
    replace fT := sN _ _ fT
    replace fR := sN _ _ fR
    replace fTB := sN _ _ fTB
    replace fTF := sN _ _ fTF
    replace fS1 := sN _ _ fS1
    replace fB1 := sN _ _ fB1
    replace fC1 := sN _ _ fC1
    replace fS2 := sN _ _ fS2
    replace od := fun H' k => od H' ((KN.same sN).trans k)
    replace pen := pen.mono sN (Nat.le_refl _)
    replace tabs := tabs_same tabs sN
    clear sN hC2
    generalize upd G16 C2 (.lst ((List.replicate nn (V.ref T)).take ff ++ [.ref TB] ++ (List.replicate nn (V.ref T)).drop ff)) = G17 at pen tabs fT fR fTB fTF fS1 fB1 fC1 fS2 fC2 od ⊢
    refine ⟨.ref TB, rfl, .ref TF, rfl, by show 2 ≤ sizeLine; decide, fun B2 hB2 => ?_⟩
    have sN := same_new (o := .lst [.ref TB, .ref TF]) hB2
    have fB2 : upd G17 B2 (.lst [.ref TB, .ref TF]) B2 = some (.lst [.ref TB, .ref TF]) := upd_same
    have nB2 := (pen.nn hB2).1
    replace fT := sN _ _ fT
    replace fR := sN _ _ fR
    replace fTB := sN _ _ fTB
    replace fTF := sN _ _ fTF
    replace fS1 := sN _ _ fS1
    replace fB1 := sN _ _ fB1
    replace fC1 := sN _ _ fC1
    replace fS2 := sN _ _ fS2
    replace fC2 := sN _ _ fC2
    replace od := fun H' k => od H' ((KN.same sN).trans k)
    replace pen := pen.mono sN (Nat.le_refl _)
    replace tabs := tabs_same tabs sN
    clear sN hB2
    generalize upd G17 B2 (.lst [.ref TB, .ref TF]) = G18 at pen tabs fT fR fTB fTF fS1 fB1 fC1 fS2 fC2 fB2 od ⊢
    refine ⟨C2, B2, _, _, rfl, rfl, fC2, fB2, (by simp only [List.length_append, List.length_take, List.length_drop, List.length_replicate, List.length_cons, List.length_nil]; exact Nat.le_trans (show _ ≤ 20 by omega) (by decide)), fun C3 hC3 => ?_⟩
    rw [← psB_map nn ff T TB TF]
    have sN := same_new (o := .lst ((psB nn ff T TB TF).map V.ref)) hC3
    have fC3 : upd G18 C3 (.lst ((psB nn ff T TB TF).map V.ref)) C3 = some (.lst ((psB nn ff T TB TF).map V.ref)) := upd_same
    have nC3 := (pen.nn hC3).1
    replace fT := sN _ _ fT
    replace fR := sN _ _ fR
    replace fTB := sN _ _ fTB
    replace fTF := sN _ _ fTF
    replace fS1 := sN _ _ fS1
    replace fB1 := sN _ _ fB1
    replace fC1 := sN _ _ fC1
    replace fS2 := sN _ _ fS2
    replace fC2 := sN _ _ fC2
    replace fB2 := sN _ _ fB2
    replace od := fun H' k => od H' ((KN.same sN).trans k)
    replace pen := pen.mono sN (Nat.le_refl _)
    replace tabs := tabs_same tabs sN
    clear sN hC3
    generalize upd G18 C3 (.lst ((psB nn ff T TB TF).map V.ref)) = G19 at pen tabs fT fR fTB fTF fS1 fB1 fC1 fS2 fC2 fB2 fC3 od ⊢
    clear fS1 nS1 fB1 nB1 fC1 nC1 fS2 nS2 fC2 nC2 fB2 nB2 fR nR
    have al : AL G19 (psB nn ff T TB TF) (coreB nn ff t) := al_core fT fTB fTF
    obtain ⟨q0, r0, eq0, er0, eg0⟩ := core_head (t := t) (T := T) (B := TB) (F := TF) n1 f2
    refine ⟨.ref C3, rfl, Sq.ix (.inl (SqL.of fC3)) (at_nat (i := 0) (by rw [List.getElem?_map, eq0]; rfl)) (Sq.ix (.inr (SqT.of (al.2 0 q0 r0 eq0 er0))) rfl ⟨rfl, .inr ⟨_, rfl, ?_⟩⟩)⟩
    have ea : (if decide (V.str (wd r0.g) = V.str "get") = true then (1 : Int) else 0) = (preN ff : Nat) := by
      rw [eg0]; unfold preN; by_cases z : ff = 0
      · rw [if_pos z, decide_eq_true z]; decide +kernel
      · rw [if_neg z, decide_eq_false z]; decide +kernel
    rw [ea]
    clear ea eg0 er0 eq0 al
    refine ⟨by show 5 ≤ sizeLine; decide, fun T0_ hT0_ => ?_⟩
    have sN := same_new (o := .tup [.str "a", .str "put", .int 0, .non, .non]) hT0_
    have fT0_ : upd G19 T0_ (.tup [.str "a", .str "put", .int 0, .non, .non]) T0_ = some (.tup [.str "a", .str "put", .int 0, .non, .non]) := upd_same
    have nT0_ := (pen.nn hT0_).1
    replace fT := sN _ _ fT
    replace fTB := sN _ _ fTB
    replace fTF := sN _ _ fTF
    replace fC3 := sN _ _ fC3
    replace od := fun H' k => od H' ((KN.same sN).trans k)
    replace pen := pen.mono sN (Nat.le_refl _)
    replace tabs := tabs_same tabs sN
    clear sN hT0_
    generalize upd G19 T0_ (.tup [.str "a", .str "put", .int 0, .non, .non]) = G20 at pen tabs fT fTB fTF fC3 fT0_ od ⊢
    refine ⟨by show 1 ≤ sizeLine; decide, fun L0 hL0 => ?_⟩
    have sN := same_new (o := .lst [.ref T0_]) hL0
    have fL0 : upd G20 L0 (.lst [.ref T0_]) L0 = some (.lst [.ref T0_]) := upd_same
    have nL0 := (pen.nn hL0).1
    replace fT := sN _ _ fT
    replace fTB := sN _ _ fTB
    replace fTF := sN _ _ fTF
    replace fC3 := sN _ _ fC3
    replace fT0_ := sN _ _ fT0_
    replace od := fun H' k => od H' ((KN.same sN).trans k)
    replace pen := pen.mono sN (Nat.le_refl _)
    replace tabs := tabs_same tabs sN
    clear sN hL0
    generalize upd G20 L0 (.lst [.ref T0_]) = G21 at pen tabs fT fTB fTF fC3 fT0_ fL0 od ⊢
    have pre1 : preN ff ≤ 1 := by unfold preN; split <;> decide
    refine ⟨_, rfl, L0, (preN ff : Int), _, rfl, rfl, fL0, by omega, by omega, Nat.le_trans (show 1 * ((preN ff : Nat) : Int).toNat ≤ 10 by omega) (by decide), fun R0 hR0 => ?_⟩
    rw [Int.toNat_natCast, flat_rep]
    have sN := same_new (o := .lst (List.replicate (preN ff) (.ref T0_))) hR0
    have fR0 : upd G21 R0 (.lst (List.replicate (preN ff) (.ref T0_))) R0 = some (.lst (List.replicate (preN ff) (.ref T0_))) := upd_same
    have nR0 := (pen.nn hR0).1
    replace fT := sN _ _ fT
    replace fTB := sN _ _ fTB
    replace fTF := sN _ _ fTF
    replace fC3 := sN _ _ fC3
    replace fT0_ := sN _ _ fT0_
    replace fL0 := sN _ _ fL0
    replace od := fun H' k => od H' ((KN.same sN).trans k)
    replace pen := pen.mono sN (Nat.le_refl _)
    replace tabs := tabs_same tabs sN
    clear sN hR0
    generalize upd G21 R0 (.lst (List.replicate (preN ff) (.ref T0_))) = G22 at pen tabs fT fTB fTF fC3 fT0_ fL0 fR0 od ⊢
    refine ⟨.ref C3, rfl, R0, C3, _, _, rfl, rfl, fR0, fC3, ?_, fun S hS => ?_⟩
    · rw [List.length_replicate, psB_map]
      simp only [List.length_append, List.length_take, List.length_drop, List.length_replicate, List.length_cons, List.length_nil]
      exact Nat.le_trans (show _ ≤ 20 by omega) (by decide)
    have sN := same_new (o := .lst (List.replicate (preN ff) (.ref T0_) ++ (psB nn ff T TB TF).map V.ref)) hS
    have fS : upd G22 S (.lst (List.replicate (preN ff) (.ref T0_) ++ (psB nn ff T TB TF).map V.ref)) S = some (.lst (List.replicate (preN ff) (.ref T0_) ++ (psB nn ff T TB TF).map V.ref)) := upd_same
    have nS := (pen.nn hS).1
    replace fT := sN _ _ fT
    replace fTB := sN _ _ fTB
    replace fTF := sN _ _ fTF
    replace fC3 := sN _ _ fC3
    replace fT0_ := sN _ _ fT0_
    replace fL0 := sN _ _ fL0
    replace fR0 := sN _ _ fR0
    replace od := fun H' k => od H' ((KN.same sN).trans k)
    replace pen := pen.mono sN (Nat.le_refl _)
    replace tabs := tabs_same tabs sN
    clear sN hS
    generalize upd G22 S (.lst (List.replicate (preN ff) (.ref T0_) ++ (psB nn ff T TB TF).map V.ref)) = G23 at pen tabs fT fTB fTF fC3 fT0_ fL0 fR0 fS od ⊢
    have rowsS : RowsAt G23 S (rowsB nn ff t) := by
      have al := (AL.rep (preN ff) (show RowAt _ T0_ putR from fT0_)).app (al_core (n := nn) (f := ff) (t := t) fT fTB fTF)
      rw [← preB_eq] at al
      exact ⟨_, by rw [List.map_append, List.map_replicate]; exact fS, al⟩
    clear fT nT fTB nTB fTF nTF fC3 nC3 fT0_ nT0_ fL0 nL0 fR0 nR0 fS nS
    obtain ⟨ib, hib⟩ := bad_some n1 n4 f2 ht
    have rok : ∀ r ∈ rowsB nn ff t, r.Ok ∧ r.c.length ≤ 1000 := rowsB_ok t0
    have rl : (rowsB nn ff t).length ≤ 8 := by
      rw [rowsB_len f2]
      split <;> omega
    generalize rowsB nn ff t = rs at rowsS hib rok rl
    clear ht t0 f2 n1 n4
    have ok : ∀ r ∈ rs, r.Ok := fun r m => (rok r m).1
    have ibl : ib < 8 := by
      have := List.mem_range.mp (List.mem_of_find?_eq_some hib)
      omega
    obtain ⟨psS, hS, lpS, hpS⟩ := id rowsS
    refine ⟨.ref S, rfl, S, rfl, ⟨_, SqL.of hS⟩, fun M hM0 => made_lc rowsS ok (by omega) (fun r m => (rok r m).2) hM0 (fun _ => rfl) (fun _ => rfl) fun ms HM am hM sM => ?_⟩
    have nM : M ≠ p := (pen.nn hM0).1
    refine nx_go ?_
    dsimp only
    refine st_go [some (.ref p), some (.ref AS), some xo, some (.ref R), some (.int (ff : Int)), some (.int (nn : Int)), some (.ref TB), some (.ref TF), some (.ref S), some (.int ((preN ff : Nat) : Int)), some (.ref M), none, none, none, none, none, none, none, none] rfl ?_
    replace od := fun H' k => od H' ((KN.same sM).trans k)
    replace pen := pen.mono sM (Nat.le_refl _)
    replace tabs := tabs_same tabs sM
    clear hM0
    have sqS : ∀ {H'}, Same HM H' → SqL K H' S (psS.map V.ref) := fun s' => SqL.of (s' _ _ (sM _ _ hS))
    have rowAt : ∀ {H'}, Same HM H' → ∀ (i : Nat) q r, psS[i]? = some q → rs[i]? = some r → RowAt H' q r := fun s' i q r e1 e2 => s' _ _ (sM _ _ (hpS i q r e1 e2))
    clear sM hpS hS rowsS
    refine ⟨.ref S, rfl, S, psS.map V.ref, rfl, sqS (Same.refl _), fun D hD => ?_⟩
    refine lc_it (walk_enum (K := K) (a := S) (xs := psS.map V.ref)) (fun i H' => H' D = some (.lst (nats ((List.range i).filter (badAt rs)))) ∧ Same HM H') ⟨upd_same, same_new hD⟩ (fun i H' _ e => sqS e.2) ?_ ?_
    · rintro i x H2 H3 hi ⟨hg, s2⟩ ⟨T1, xa, xb, rfl, hT1, rfl, ea, eb⟩
      have hi2 : i < psS.length := by rw [List.length_map] at hi; exact hi
      have hi3 : i < rs.length := by omega
      cases ea
      have ep : psS[i]? = some psS[i] := List.getElem?_eq_getElem hi2
      have er : rs[i]? = some rs[i] := List.getElem?_eq_getElem hi3
      have eb' : xb = .ref psS[i] := by
        dsimp only at eb
        rw [List.getElem?_map, ep] at eb
        exact (Option.some.inj eb).symm
      subst eb'
      have s3 := s2.trans (same_new (o := .tup [.int (i : Nat), .ref psS[i]]) hT1)
      have row := rowAt s3 i _ _ ep er
      have bo := badAt_of er
      have nT : D ≠ T1 := ne_of_none hg hT1
      have hg3 : upd H2 T1 (.tup [.int (i : Nat), .ref psS[i]]) D = some (.lst (nats ((List.range i).filter (badAt rs)))) := by rw [upd_ne nT]; exact hg
      have nx : nats ((List.range (i + 1)).filter (badAt rs)) = if badAt rs i = true then nats ((List.range i).filter (badAt rs)) ++ [V.int (i : Int)] else nats ((List.range i).filter (badAt rs)) := by
        rw [List.range_succ, List.filter_append]
        cases c : badAt rs i with
        | true => rw [if_pos rfl]; simp [nats, c]
        | false => rw [if_neg (by decide)]; simp [c]
      have al : (nats ((List.range i).filter (badAt rs))).length < sizeLine := by
        have : (nats ((List.range i).filter (badAt rs))).length ≤ i := by
          unfold nats
          rw [List.length_map]
          exact Nat.le_trans (List.length_filter_le _ _) (by simp)
        exact Nat.lt_of_le_of_lt (Nat.le_trans this (show i ≤ 1000 by omega)) (by decide)
      refine ⟨T1, [.int (i : Nat), .ref psS[i]], rfl, .inl (.inl upd_same), rfl, _, _, rfl, _, _, rfl, rfl, ?_⟩
      generalize upd H2 T1 (.tup [.int (i : Nat), .ref psS[i]]) = H3 at s3 hg3 row ⊢
      have okr := ok _ (List.getElem_mem hi3)
      generalize rs[i] = r at row bo okr
      generalize psS[i] = qr at row
      have sq : Sq K H3 qr (rowV r) := .inr (SqT.of row)
      have isY : badAt rs i = true → (upd H3 D (.lst (nats ((List.range i).filter (badAt rs)) ++ [V.int (i : Int)]))) D = some (.lst (nats ((List.range (i + 1)).filter (badAt rs)))) ∧ Same HM (upd H3 D (.lst (nats ((List.range i).filter (badAt rs)) ++ [V.int (i : Int)]))) := fun z =>
        ⟨by rw [upd_same, nx, if_pos z], fun b o e => by rw [upd_ne (ne_of_none e hD)]; exact s3 b o e⟩
      have isN : badAt rs i = false → H3 D = some (.lst (nats ((List.range (i + 1)).filter (badAt rs)))) ∧ Same HM H3 := fun z => ⟨by rw [nx, if_neg (by rw [z]; decide)]; exact hg3, s3⟩
      refine ⟨rfl, ?_⟩
      refine ⟨.ref qr, rfl, Sq.ix sq rfl ⟨rfl, r.t.isSome, (by cases r.t <;> rfl), ?_⟩⟩
      cases ht : r.t with
      | none =>
        rw [ht] at bo
        exact iteF' (iteF' (isN bo))
      | some jt =>
        rw [ht] at bo
        obtain ⟨_, _, jt0⟩ := okr.tg jt ht
        have e4 : atI (rowV r) 4 = some (.int jt) := by unfold rowV; rw [ht]; rfl
        have lenS : LenV K (.ref S) H3 rs.length := .inl ⟨_, sqS s3, by rw [List.length_map]; omega⟩
        refine iteT' ?_
        refine ⟨.ref qr, rfl, ?_⟩
        refine Sq.ix sq e4 ?_
        refine ⟨.ref S, rfl, ?_⟩
        refine ⟨.ref S, rs.length, rfl, lenS, ?_⟩
        refine ⟨jt, (rs.length : Int), rfl, rfl, ?_⟩
        refine ⟨_, rfl, ?_⟩
        by_cases hle : (rs.length : Int) ≤ jt
        · have bt : badAt rs i = true := by
            rw [bo]
            show (decide ((rs.length : Int) ≤ jt) || _) = true
            rw [decide_eq_true hle]
            rfl
          rw [decide_eq_true hle]
          exact iteT' (iteT' ⟨_, rfl, _, hg3, al, isY bt⟩)
        · rw [decide_eq_false hle]
          obtain ⟨jn, rfl⟩ : ∃ jn : Nat, jt = jn := ⟨jt.toNat, by omega⟩
          have jl : jn < rs.length := by omega
          have jl2 : jn < psS.length := by omega
          have ej : psS[jn]? = some psS[jn] := List.getElem?_eq_getElem jl2
          have erj : rs[jn]? = some rs[jn] := List.getElem?_eq_getElem jl
          have row2 := rowAt s3 jn _ _ ej erj
          have bt : badAt rs i = rs[jn].g := by
            rw [bo]
            show (decide ((rs.length : Int) ≤ (jn : Int)) || (match rs[((jn : Int)).toNat]? with
              | some r => r.g
              | none => true)) = _
            rw [decide_eq_false hle, show ((jn : Int)).toNat = jn from rfl, erj]
            rfl
          have aj : atI (psS.map V.ref) (jn : Int) = some (.ref psS[jn]) := at_nat (by rw [List.getElem?_map, ej]; rfl)
          generalize rs[jn] = r2 at row2 bt
          generalize psS[jn] = q2 at row2 aj
          have sq2 : Sq K H3 q2 (rowV r2) := .inr (SqT.of row2)
          refine iteF' ?_
          refine ⟨.ref S, rfl, .ref qr, rfl, ?_⟩
          refine Sq.ix sq e4 ?_
          refine Sq.ix (.inl (sqS s3)) aj ?_
          refine Sq.ix sq2 rfl ?_
          refine ⟨rfl, r2.g, (by cases r2.g <;> decide +kernel), ?_⟩
          rw [← bt]
          cases hb : badAt rs i with
          | true => exact iteT' ⟨_, rfl, _, hg3, al, isY hb⟩
          | false => exact iteF' (isN hb)
    rintro HP ⟨hg, sP⟩
    rw [List.length_map, lpS] at hg
    have hg0 : (nats (badL rs))[0]? = some (.int (ib : Nat)) := by
      unfold nats
      rw [List.getElem?_map, badL_head hib]
      rfl
    refine Sq.ix (.inl (SqL.of hg)) (at_nat (i := 0) hg0) ?_
    replace od := fun H' k => od H' ((KN.same sP).trans k)
    replace pen := pen.mono sP (Nat.le_refl _)
    replace tabs := tabs_same tabs sP
    replace am := ask_mono sP am
    replace hM := sP _ _ hM
    clear hg hg0 sP sqS rowAt hD D lpS
    clear psS
    have tellI : Tell (.int (ib : Nat)) := (sm_int (i := (ib : Nat)) (by unfold SmI; omega)).tell (by decide) (by decide)
    refine ⟨tabs, fun H1 x1_ T1 Q' kk => ⟨xo, rfl, xo, rfl, looked_bad (od _ (KN.ext x1_)) (heard_out (p := "asks") (by simp) fun t H2 s2 e2 => ⟨by show 1 ≤ sizeLine; decide, fun HL hHL => ?_⟩)⟩⟩
    have hrr := Hr.first T1 (pen_ext pen x1_) (KN.ext x1_ : KN p HP H1) s2 (d := askT "asks") e2 hHL
    generalize upd H2 HL (.lst [.ref t]) = HQ1 at hrr ⊢
    obtain ⟨ts, hts⟩ : ∃ ts, ts = [t] := ⟨_, rfl⟩
    rw [← hts] at hrr
    clear hts hHL e2 s2 T1 x1_ kk
    refine ⟨.ref HL, rfl, .inl ⟨rfl, _, SqL.of hrr.hl⟩, hrr.tabs, fun H1 x1_ T1 Q' kk => ⟨xo, rfl, xo, rfl, looked_bad (od _ (hrr.kn.trans (KN.ext x1_))) (heard_out (p := "asks") (by simp) fun t H2 s2 e2 => ?_)⟩⟩
    have ss := s2
    obtain ⟨hl2, hr2_⟩ := hrr.step x1_ T1 ss (d := askT "asks") e2
    refine ⟨HL, _, _, rfl, rfl, hl2, ?_, ?_⟩
    · rw [List.length_map, hrr.at_.1]
      exact Nat.lt_of_le_of_lt (show _ ≤ 100 from by simp only [List.length_append, List.length_cons, List.length_nil]; decide) (show 100 < sizeLine by decide)
    generalize upd H2 HL (.lst (ts.map V.ref ++ [.ref t])) = HQ2 at hr2_ ⊢
    clear hrr
    obtain ⟨ts2, hts⟩ : ∃ ts2, ts2 = ts ++ [t] := ⟨_, rfl⟩
    rw [← hts] at hr2_
    have hrr := hr2_
    clear hr2_ hts hl2 e2 ss s2 T1 x1_ kk ts
    obtain ⟨ts, hts⟩ : ∃ ts, ts = ts2 := ⟨_, rfl⟩
    rw [← hts] at hrr
    clear hts ts2
    refine ⟨.ref HL, rfl, .inl ⟨rfl, _, SqL.of hrr.hl⟩, hrr.tabs, fun H1 x1_ T1 Q' kk => ?_⟩
    have kn1 := hrr.kn.trans (KN.ext x1_)
    have hM1 := kn1 _ _ nM hM fun _ z => nomatch z
    have am1 := asks_kn am pen kn1
    refine ⟨.ref M, rfl, .ref M, rfl, .inr (.inr ⟨M, rs, rfl, ⟨ms, .inl (SqL.of hM1), am1⟩, by omega, ok, fun z => absurd z (by omega), fun _ i hi => ?_, fun _ z => by rw [hib] at z; cases z⟩)⟩
    rw [hib] at hi
    cases hi
    refine heard_outI tellI fun t H2 s2 e2 => ?_
    have ss := s2
    clear hM1 am1 kn1
    obtain ⟨hl2, hr2_⟩ := hrr.step x1_ T1 ss (d := askI (ib : Nat)) e2
    refine ⟨HL, _, _, rfl, rfl, hl2, ?_, ?_⟩
    · rw [List.length_map, hrr.at_.1]
      exact Nat.lt_of_le_of_lt (show _ ≤ 100 from by simp only [List.length_append, List.length_cons, List.length_nil]; decide) (show 100 < sizeLine by decide)
    generalize upd H2 HL (.lst (ts.map V.ref ++ [.ref t])) = HQ3 at hr2_ ⊢
    clear hrr
    obtain ⟨ts2, hts⟩ : ∃ ts2, ts2 = ts ++ [t] := ⟨_, rfl⟩
    rw [← hts] at hr2_
    have hrr := hr2_
    clear hr2_ hts hl2 e2 ss s2 T1 x1_ kk ts
    obtain ⟨ts, hts⟩ : ∃ ts, ts = ts2 := ⟨_, rfl⟩
    rw [← hts] at hrr
    clear hts ts2
    refine ⟨.ref HL, rfl, .inl ⟨rfl, _, SqL.of hrr.hl⟩, hrr.tabs, fun H1 x1_ T1 Q' kk => ?_⟩
    have kn1 := hrr.kn.trans (KN.ext x1_)
    have hM1 := kn1 _ _ nM hM fun _ z => nomatch z
    have am1 := asks_kn am pen kn1
    refine ⟨.ref M, rfl, M, _, rfl, .inl ⟨SqL.of hM1, fun l hl => ⟨.ref l, rfl, .inr (.inr ⟨l, rs, rfl, ⟨ms, .inr (SqT.of upd_same), ask_mono (same_new hl) am1⟩, by omega, ok, fun z => absurd z (by omega), fun _ i hi => ?_, fun _ z => by rw [hib] at z; cases z⟩)⟩⟩⟩
    rw [hib] at hi
    cases hi
    refine heard_outI tellI fun t H2 s2 e2 => ?_
    have ss := (same_new hl).trans s2
    clear hM1 am1 kn1 hl
    obtain ⟨hl2, hr2_⟩ := hrr.step x1_ T1 ss (d := askI (ib : Nat)) e2
    refine ⟨HL, _, _, rfl, rfl, hl2, ?_, ?_⟩
    · rw [List.length_map, hrr.at_.1]
      exact Nat.lt_of_le_of_lt (show _ ≤ 100 from by simp only [List.length_append, List.length_cons, List.length_nil]; decide) (show 100 < sizeLine by decide)
    generalize upd H2 HL (.lst (ts.map V.ref ++ [.ref t])) = HQ4 at hr2_ ⊢
    clear hrr
    obtain ⟨ts2, hts⟩ : ∃ ts2, ts2 = ts ++ [t] := ⟨_, rfl⟩
    rw [← hts] at hr2_
    have hrr := hr2_
    clear hr2_ hts hl2 e2 ss s2 T1 x1_ kk ts
    obtain ⟨ts, hts⟩ : ∃ ts, ts = ts2 := ⟨_, rfl⟩
    rw [← hts] at hrr
    clear hts ts2
    dsimp only
    refine if_no (fun H' => Same HQ4 H') (fun Qb z => ?_) (fun HR sR => ?_)
    · have sR := Same.refl HQ4
      refine ⟨.ref HL, rfl, by show 2 ≤ sizeLine; decide, fun U1 hU1 => ?_⟩
      have fU1 : upd HQ4 U1 (.tup [.str "ask", .str "'asks'"]) U1 = some (.tup ((askT "asks").map V.str)) := by rw [upd_same]; unfold askT; rw [asks_shown]; rfl
      replace sR := sR.trans (same_new (o := .tup [.str "ask", .str "'asks'"]) hU1)
      clear hU1
      generalize upd HQ4 U1 (.tup [.str "ask", .str "'asks'"]) = I1 at sR fU1 ⊢
      refine ⟨by show 1 ≤ sizeLine; decide, fun V1 hV1 => ?_⟩
      have fV1 : upd I1 V1 (.lst [.ref U1]) V1 = some (.lst [.ref U1]) := upd_same
      replace fU1 := same_new (o := .lst [.ref U1]) hV1 _ _ fU1
      replace sR := sR.trans (same_new (o := .lst [.ref U1]) hV1)
      clear hV1
      generalize upd I1 V1 (.lst [.ref U1]) = I2 at sR fU1 fV1 ⊢
      refine ⟨V1, 2, _, rfl, rfl, fV1, by decide, by decide, by show 1 * 2 ≤ sizeLine; decide, fun W1 hW1 => ?_⟩
      rw [show (List.replicate (2 : Int).toNat [V.ref U1]).flatten = [.ref U1, .ref U1] from rfl]
      have fW1 : upd I2 W1 (.lst [.ref U1, .ref U1]) W1 = some (.lst [.ref U1, .ref U1]) := upd_same
      replace fU1 := same_new (o := .lst [.ref U1, .ref U1]) hW1 _ _ fU1
      replace fV1 := same_new (o := .lst [.ref U1, .ref U1]) hW1 _ _ fV1
      replace sR := sR.trans (same_new (o := .lst [.ref U1, .ref U1]) hW1)
      clear hW1
      generalize upd I2 W1 (.lst [.ref U1, .ref U1]) = I3 at sR fU1 fV1 fW1 ⊢
      refine ⟨.int (ib : Nat), rfl, .int (ib : Nat), .int (ib : Nat), rfl, .int _, tellI.1, tellI.2.1, tellI.2.2, by show 2 ≤ sizeLine; decide, fun U2 hU2 => ?_⟩
      have fU2 : upd I3 U2 (.tup [.str "ask", .str (PyData.int (ib : Nat)).shown]) U2 = some (.tup ((askI (ib : Nat)).map V.str)) := upd_same
      replace fU1 := same_new (o := .tup [.str "ask", .str (PyData.int (ib : Nat)).shown]) hU2 _ _ fU1
      replace fV1 := same_new (o := .tup [.str "ask", .str (PyData.int (ib : Nat)).shown]) hU2 _ _ fV1
      replace fW1 := same_new (o := .tup [.str "ask", .str (PyData.int (ib : Nat)).shown]) hU2 _ _ fW1
      replace sR := sR.trans (same_new (o := .tup [.str "ask", .str (PyData.int (ib : Nat)).shown]) hU2)
      clear hU2
      generalize upd I3 U2 (.tup [.str "ask", .str (PyData.int (ib : Nat)).shown]) = I4 at sR fU1 fV1 fW1 fU2 ⊢
      refine ⟨by show 1 ≤ sizeLine; decide, fun V2 hV2 => ?_⟩
      have fV2 : upd I4 V2 (.lst [.ref U2]) V2 = some (.lst [.ref U2]) := upd_same
      replace fU1 := same_new (o := .lst [.ref U2]) hV2 _ _ fU1
      replace fV1 := same_new (o := .lst [.ref U2]) hV2 _ _ fV1
      replace fW1 := same_new (o := .lst [.ref U2]) hV2 _ _ fW1
      replace fU2 := same_new (o := .lst [.ref U2]) hV2 _ _ fU2
      replace sR := sR.trans (same_new (o := .lst [.ref U2]) hV2)
      clear hV2
      generalize upd I4 V2 (.lst [.ref U2]) = I5 at sR fU1 fV1 fW1 fU2 fV2 ⊢
      refine ⟨V2, 2, _, rfl, rfl, fV2, by decide, by decide, by show 1 * 2 ≤ sizeLine; decide, fun W2 hW2 => ?_⟩
      rw [show (List.replicate (2 : Int).toNat [V.ref U2]).flatten = [.ref U2, .ref U2] from rfl]
      have fW2 : upd I5 W2 (.lst [.ref U2, .ref U2]) W2 = some (.lst [.ref U2, .ref U2]) := upd_same
      replace fU1 := same_new (o := .lst [.ref U2, .ref U2]) hW2 _ _ fU1
      replace fV1 := same_new (o := .lst [.ref U2, .ref U2]) hW2 _ _ fV1
      replace fW1 := same_new (o := .lst [.ref U2, .ref U2]) hW2 _ _ fW1
      replace fU2 := same_new (o := .lst [.ref U2, .ref U2]) hW2 _ _ fU2
      replace fV2 := same_new (o := .lst [.ref U2, .ref U2]) hW2 _ _ fV2
      replace sR := sR.trans (same_new (o := .lst [.ref U2, .ref U2]) hW2)
      clear hW2
      generalize upd I5 W2 (.lst [.ref U2, .ref U2]) = I6 at sR fU1 fV1 fW1 fU2 fV2 fW2 ⊢
      refine ⟨W1, W2, _, _, rfl, rfl, fW1, fW2, by show 4 ≤ sizeLine; decide, fun X1 hX1 => ?_⟩
      have fX1 : upd I6 X1 (.lst ([.ref U1, .ref U1] ++ [.ref U2, .ref U2])) X1 = some (.lst (([U1, U1, U2, U2] : List Addr).map V.ref)) := upd_same
      replace fU1 := same_new (o := .lst ([.ref U1, .ref U1] ++ [.ref U2, .ref U2])) hX1 _ _ fU1
      replace fV1 := same_new (o := .lst ([.ref U1, .ref U1] ++ [.ref U2, .ref U2])) hX1 _ _ fV1
      replace fW1 := same_new (o := .lst ([.ref U1, .ref U1] ++ [.ref U2, .ref U2])) hX1 _ _ fW1
      replace fU2 := same_new (o := .lst ([.ref U1, .ref U1] ++ [.ref U2, .ref U2])) hX1 _ _ fU2
      replace fV2 := same_new (o := .lst ([.ref U1, .ref U1] ++ [.ref U2, .ref U2])) hX1 _ _ fV2
      replace fW2 := same_new (o := .lst ([.ref U1, .ref U1] ++ [.ref U2, .ref U2])) hX1 _ _ fW2
      replace sR := sR.trans (same_new (o := .lst ([.ref U1, .ref U1] ++ [.ref U2, .ref U2])) hX1)
      clear hX1
      generalize upd I6 X1 (.lst ([.ref U1, .ref U1] ++ [.ref U2, .ref U2])) = I7 at sR fU1 fV1 fW1 fU2 fV2 fW2 fX1 ⊢
      have taX : TupsAt I7 [U1, U1, U2, U2] [askT "asks", askT "asks", askI (ib : Nat), askI (ib : Nat)] := by
        refine ⟨rfl, fun i t d e1 e2 => ?_⟩
        rcases i with _ | _ | _ | _ | i
        · cases e1; cases e2; exact fU1
        · cases e1; cases e2; exact fU1
        · cases e1; cases e2; exact fU2
        · cases e1; cases e2; exact fU2
        · cases e1
      have shX : SeqAt.shaped (dsD [askT "asks", askT "asks", askI (ib : Nat), askI (ib : Nat)]) = true := ds_shaped fun d md => by
        rcases List.mem_cons.mp md with rfl | md
        · exact can_askT
        rcases List.mem_cons.mp md with rfl | md
        · exact can_askT
        rcases List.mem_cons.mp md with rfl | md
        · exact can_askI (by omega)
        rcases List.mem_cons.mp md with rfl | md
        · exact can_askI (by omega)
        · cases md
      refine ⟨dsD [askT "asks", askT "asks", askI (ib : Nat), askI (ib : Nat)], dsD [askT "asks", askT "asks", askI (ib : Nat), askI (ib : Nat)], ds_dp (sR _ _ hrr.hl) (tups_mono sR hrr.at_), ds_dp fX1 taX, shX, shX, false, ?_, z _ sR⟩
      rw [show PyData.eqv (dsD [askT "asks", askT "asks", askI (ib : Nat), askI (ib : Nat)]) (dsD [askT "asks", askT "asks", askI (ib : Nat), askI (ib : Nat)]) = true from eqv_ds _]
      rfl
    have pen5 := hrr.pen.mono sR (Nat.le_refl _)
    have tabs5 := tabs_same hrr.tabs sR
    clear hrr sR tabs pen od am hM nM ok rok hib ibl tellI rl
    refine ⟨.ref p, rfl, p, c, cells, _, 8, rfl, pen5, by omega, by decide, by decide, fun d8 HW d0 d1 pn6 kp6 => ⟨d8, 0, rfl, rfl, _, rfl, ite2 (fun _ => q _) (fun _ => ?_)⟩⟩
    have tabs6 := tabs_kept tabs5 pen5 kp6
    clear tabs5 pen5 kp6 d0 d1
    refine ⟨.ref p, rfl, p, c, cells, _, 100, rfl, pn6, by omega, by decide, by decide, fun b HX b0 b1 pn7 kp7 => ?_⟩
    refine ⟨.ref p, rfl, p, c, cells, _, 9, rfl, pn7, by omega, by decide, by decide, fun x HY x0 x1 pn8 kp8 => ⟨1, x, rfl, rfl, by show 2 ≤ sizeLine; decide, fun TT hTT => ?_⟩⟩
    refine ⟨TT, [.int b, .int (1 + x)], rfl, .inl (.inl upd_same), rfl, _, _, rfl, _, _, rfl, rfl, ?_⟩
    have tabs8 := tabs_same (tabs_kept (tabs_kept tabs6 pn6 kp7) pn7 kp8) (same_new (o := .tup [.int b, .int (1 + x)]) hTT)
    have pen8 := pn8.mono (same_new (o := .tup [.int b, .int (1 + x)]) hTT) (Nat.le_refl _)
    generalize upd HY TT (.tup [.int b, .int (1 + x)]) = HG at tabs8 pen8 ⊢
    obtain ⟨m, hm⟩ : ∃ m, m = 1 + x := ⟨_, rfl⟩
    have m0 : 0 < m := by omega
    rw [← hm]
    clear hm hTT pn8 kp8 pn7 kp7 pn6 tabs6 x0 x1
    refine st_go [some (.ref p), some (.ref AS), some xo, some (.ref R), some (.int (ff : Int)), some (.int (nn : Int)), some (.ref TB), some (.ref TF), some (.ref S), some (.int ((preN ff : Nat) : Int)), some (.ref M), none, some (.int (ib : Nat)), none, some (.ref HL), some (.int b), some (.int m), none, none] rfl ?_
    -- the great one
    have r0o : (⟨"a", false, b, some (b + 1), none⟩ : Row).Ok := g_ok b0 m0 _ (List.mem_of_getElem? (g_0 b m))
    refine ⟨.int b, rfl, _, rfl, b, 1, rfl, rfl, fun x0 dx hx hdx ne => mk_row (r := ⟨"a", false, b, some (b + 1), none⟩) r0o (show ("a" : Str).length ≤ 1000 by decide +kernel) hx hdx ne fun H1 s1 ask0 => ⟨rfl, by show 1 ≤ sizeLine; decide, fun G0 hG0 => ?_⟩⟩
    have s2 := s1.trans (same_new (o := .lst [.ref x0]) hG0)
    have ask0 := ask0.mono (same_new (o := .lst [.ref x0]) hG0)
    have fG0 : upd H1 G0 (.lst [.ref x0]) G0 = some (.lst [.ref x0]) := upd_same
    generalize upd H1 G0 (.lst [.ref x0]) = HJ at s2 ask0 fG0 ⊢
    refine ⟨999, rfl, by decide, by decide, fun D hD => ?_⟩
    refine lc_it (walk_range (lo := 0) (n := 999)) (fun i H' => ∃ ms : List Addr, H' D = some (.lst (ms.map V.ref)) ∧ AsksAt C H' ms ((gTail b m).take i) ∧ Same HJ H') ⟨[], upd_same, ⟨rfl, fun i p r e => (by cases e)⟩, same_new hD⟩ (fun _ _ _ _ => True.intro) ?_ ?_
    · rintro i x H4 H5 hi ⟨ms, hd, ⟨ml, am⟩, s4⟩ ⟨rfl, hx⟩
      have ex : x = .int (i : Int) := by
        rw [hx]
        show V.int (0 + (i : Int)) = _
        rw [Int.zero_add]
      subst ex
      have er := gTail_get b m hi
      have okr := g_ok b0 m0 _ (show _ ∈ greatR b m from by rw [g_cons]; exact List.mem_cons_of_mem _ (List.mem_of_getElem? er))
      have tk : (gTail b m).take (i + 1) = (gTail b m).take i ++ [⟨"b", true, b + i, some (b + i + m), some 0⟩] := by
        rw [List.take_add_one, er]
        rfl
      rw [tk]
      have mli : ms.length = i := by rw [ml, List.length_take, gTail_len]; omega
      have hlr : ((gTail b m).take i).length = i := by rw [← ml, mli]
      refine ⟨rfl, yes_go ⟨_, rfl, _, rfl, b, (i : Int), rfl, rfl, _, rfl, _, rfl, b, (i : Int), rfl, rfl, _, rfl, _, m, rfl, rfl, fun y dy hy hdy ney => mk_row (r := ⟨"b", true, b + i, some (b + i + m), some 0⟩) okr (show ("b" : Str).length ≤ 1000 by decide +kernel) hy hdy ney fun H6 s6 ask => ⟨rfl, _, s6 _ _ hd, ?_, ms ++ [y], by rw [upd_same, List.map_append]; rfl, ⟨?_, ?_⟩, fun b o e => by rw [upd_ne (ne_of_none e hD)]; exact s6 _ _ (s4 _ _ e)⟩⟩⟩
      · rw [List.length_map]
        exact Nat.lt_of_le_of_lt (show _ ≤ 1000 by omega) (by decide)
      · rw [List.length_append, List.length_append, ml]
        rfl
      · intro j q r' e1 e2
        have hd6 := s6 _ _ hd
        have keep : ∀ {q r'}, AskAt C H6 q r' → AskAt C (upd H6 D (.lst (ms.map V.ref ++ [V.ref y]))) q r' := fun {q r'} z => by
          obtain ⟨dx, h⟩ := id z
          exact ⟨dx, by rw [upd_ne (z.ne hd6)]; exact h⟩
        by_cases hj : j < ms.length
        · rw [List.getElem?_append_left hj] at e1
          rw [List.getElem?_append_left (by omega)] at e2
          exact keep ((am j q r' e1 e2).mono s6)
        · rw [List.getElem?_append_right (by omega)] at e1 e2
          have hj0 : j - ms.length = 0 := by
            cases hz : j - ms.length with
            | zero => rfl
            | succ m => rw [hz] at e1; cases e1
          rw [hj0] at e1
          rw [show j - ((gTail b m).take i).length = 0 by omega] at e2
          cases e1
          cases e2
          exact keep ask
    rintro H7 ⟨ms, hd, am, s7⟩
    rw [List.take_of_length_le (by rw [gTail_len]; exact Nat.le_refl _)] at am
    have ml := am.1
    rw [gTail_len] at ml
    refine ⟨G0, D, _, _, rfl, rfl, s7 _ _ fG0, hd, by rw [List.length_map, ml]; exact (show 1 + 999 ≤ sizeLine by decide), fun GR hGR0 => ?_⟩
    have s8 := same_new (o := .lst ([.ref x0] ++ ms.map V.ref)) hGR0
    have hGR : upd H7 GR (.lst ([.ref x0] ++ ms.map V.ref)) GR = some (.lst ((x0 :: ms).map V.ref)) := upd_same
    have gk := ask_mono s8 (asks_cons (ask0.mono s7) am)
    rw [← g_cons] at gk
    have sAll := s2.trans (s7.trans s8)
    have gl : (x0 :: ms).length = 1000 := by rw [List.length_cons, ml]
    generalize upd H7 GR (.lst ([.ref x0] ++ ms.map V.ref)) = H8 at sAll gk hGR ⊢
    generalize x0 :: ms = gs at gk hGR gl
    have penK := pen8.mono sAll (Nat.le_refl _)
    have tabsK := tabs_same tabs8 sAll
    clear pen8 tabs8 sAll s8 s7 s2 s1 ask0 fG0 hd am ml hx hdx ne hG0 hD hGR0 r0o
    -- what is due
    refine ⟨_, rfl, b, 1, rfl, rfl, _, rfl, b, 998, rfl, rfl, by show 3 ≤ sizeLine; decide, fun I1 hI1 => ⟨by show 1 ≤ sizeLine; decide, fun I2 hI2 => ?_⟩⟩
    have sI := same_new (o := .tup [.int 0, .int (b + 1), .int (b + 998)]) hI1
    have fI1 : upd H8 I1 (.tup [.int 0, .int (b + 1), .int (b + 998)]) I1 = some (.tup [.int 0, .int (b + 1), .int (b + 998)]) := upd_same
    generalize upd H8 I1 (.tup [.int 0, .int (b + 1), .int (b + 998)]) = H9 at sI fI1 hI2 ⊢
    have sJ := same_new (o := .tup [.ref I1]) hI2
    have fI2 : upd H9 I2 (.tup [.ref I1]) I2 = some (.tup [.ref I1]) := upd_same
    replace fI1 := sJ _ _ fI1
    have sIJ := sI.trans sJ
    generalize upd H9 I2 (.tup [.ref I1]) = HK at sIJ fI1 fI2 ⊢
    have penK := penK.mono sIJ (Nat.le_refl _)
    have tabsK := tabs_same tabsK sIJ
    have gk := ask_mono sIJ gk
    have hGR := sIJ _ _ hGR
    clear hI1
    refine nx_go ?_
    dsimp only
    refine if_no (fun H' => Same HK H') (fun Qb z => ?_) (fun HM sM => ?_)
    · have hist : ∀ {H'}, Same HK H' → Hist K C H' GR (greatR b m) := fun s' => ⟨gs, .inl (SqL.of (s' _ _ hGR)), ask_mono s' gk⟩
      have l1000 : (greatR b m).length ≤ 1000 := by rw [g_len]; exact Nat.le_refl _
      obtain ⟨psh, pln, pdp⟩ := g_parts_small b m
      obtain ⟨zsh, zln, zdp⟩ := g_zones_small b0 (by omega) m0
      refine ⟨.ref GR, rfl, GR, _, rfl, hist (Same.refl _), l1000, g_ok b0 m0, g_nobad b m, fun p1 H6 s6 e1 => ⟨.ref p1, partsD (greatR b m), rfl, dv_of _ _ (parts_dp e1), psh, pln, pdp, ?_⟩⟩
      refine ⟨1000, rfl, RgOk.of_le (by decide) (by decide) (by decide) (by decide), fun q1 hq1 => ?_⟩
      have fq : upd H6 q1 (.tup (rgV 0 1000)) q1 = some (.tup (nats (partsOf (greatR b m)))) := by
        rw [upd_same, g_parts]
        unfold rgV nats
        rw [show ((1000 : Int) - 0).toNat = 1000 from rfl]
        refine congrArg (fun l => some (HO.tup l)) (List.map_congr_left fun i _ => ?_)
        show V.int (0 + (i : Int)) = V.int (i : Int)
        rw [Int.zero_add]
      have s7 := s6.trans (same_new (o := .tup (rgV 0 1000)) hq1)
      generalize upd H6 q1 (.tup (rgV 0 1000)) = H7 at fq s7 ⊢
      refine ⟨.ref q1, partsD (greatR b m), rfl, dv_of _ _ (parts_dp fq), psh, pln, pdp, rfl, false, ne_self, iteF' ?_⟩
      refine ⟨.ref GR, rfl, GR, _, rfl, hist s7, l1000, g_ok b0 m0, g_nobad b m, fun p2 H9 s9 e2 => ⟨.ref p2, zonesD (greatR b m), rfl, dv_of _ _ (zones_dp e2), zsh, zln, zdp, .ref I2, rfl, .ref I2, zonesD (greatR b m), rfl, ?_, zsh, zln, zdp, rfl, false, ne_self, z _ (s7.trans s9)⟩⟩
      have s79 := s7.trans s9
      unfold zonesD
      rw [g_zones b0 m0]
      exact .tup (SqT.of (s79 _ _ fI2)) (.cons (.tup (SqT.of (s79 _ _ fI1)) (.cons (.int _) (.cons (.int _) (.cons (.int _) .nil)))) .nil)
    have penM := penK.mono sM (Nat.le_refl _)
    have tabsM := tabs_same tabsK sM
    have gkM := ask_mono sM gk
    have hGM := sM _ _ hGR
    clear penK tabsK gk hGR sM sIJ sI sJ fI1 fI2 hI2
    -- one ask too many
    refine ⟨tabsM, fun H1 x1_ T1 Q' kk => ?_⟩
    have hG1 := x1_ _ _ hGM fun _ z => nomatch z
    have gk1 := asks_ext gkM x1_
    refine ⟨.ref GR, rfl, fun y dy hy hdy ney => mk_row (r := rowC) rowC_ok (show ("c" : Str).length ≤ 1000 by decide +kernel) hy hdy ney fun H2 s2 ask => ⟨rfl, by show 1 ≤ sizeLine; decide, fun L hL => ?_⟩⟩
    have s3 := s2.trans (same_new (o := .lst [.ref y]) hL)
    refine ⟨GR, L, _, _, rfl, rfl, s3 _ _ hG1, upd_same, by rw [List.length_map, gl]; exact (show 1000 + 1 ≤ sizeLine by decide), fun G2 hG2 => ?_⟩
    have s4 := s3.trans (same_new (o := .lst (gs.map V.ref ++ [.ref y])) hG2)
    have ask4 := (ask.mono (same_new (o := .lst [.ref y]) hL)).mono (same_new (o := .lst (gs.map V.ref ++ [.ref y])) hG2)
    have len1 : (greatR b m ++ [rowC]).length = 1001 := by rw [List.length_append, g_len]; rfl
    refine ⟨.ref G2, rfl, .inr (.inr ⟨G2, greatR b m ++ [rowC], rfl, hist_snoc (ask_mono s4 gk1) ask4 upd_same, by rw [len1]; decide, fun r mr => ?_, fun _ => ?_, fun z => absurd z (by rw [len1]; decide), fun z => absurd z (by rw [len1]; decide)⟩)⟩
    · rcases List.mem_append.mp mr with mr | mr
      · exact g_ok b0 m0 r mr
      · rcases List.mem_cons.mp mr with rfl | mr
        · exact rowC_ok
        · cases mr
    refine heard_outM fun t H5 s5 e5 => ?_
    refine ⟨by show 1 ≤ sizeLine; decide, fun HL2 hHL2 => ?_⟩
    have hrr := Hr.first T1 (pen_ext penM x1_) (KN.ext x1_ : KN p HM H1) (s4.trans s5) (d := manyT) e5 hHL2
    generalize upd H5 HL2 (.lst [.ref t]) = HN at hrr ⊢
    obtain ⟨us, hus⟩ : ∃ us, us = [t] := ⟨_, rfl⟩
    rw [← hus] at hrr
    clear hus hHL2 e5 s5 s4 s3 ask4 ask hG1 gk1 hy hdy ney hL hG2 T1 x1_ kk s2
    refine ⟨.ref HL2, rfl, .inl ⟨rfl, _, SqL.of hrr.hl⟩, hrr.tabs, fun H1 x1_ T1 Q' kk => ?_⟩
    have kn1 := hrr.kn.trans (KN.ext x1_)
    have nGR : GR ≠ p := fun z => by
      obtain ⟨a_, g_, hp_, _⟩ := penM.ex
      rw [z, hp_] at hGM
      cases gs with
      | nil => cases gl
      | cons q1 gs =>
        cases gs with
        | nil => cases gl
        | cons q2 gs => cases hGM
    have hG1 := kn1 _ _ nGR hGM fun _ z => nomatch z
    have gk1 := asks_kn gkM penM kn1
    refine ⟨.ref GR, rfl, by show 1 ≤ sizeLine; decide, fun L hL => ⟨GR, L, _, _, rfl, rfl, same_new hL _ _ hG1, upd_same, by rw [List.length_map, gl]; decide, fun G2 hG2 => ?_⟩⟩
    have s4 := (same_new (o := .lst [.non]) hL).trans (same_new (o := .lst (gs.map V.ref ++ [.non])) hG2)
    refine ⟨.ref G2, rfl, looked_bad (.inr ⟨G2, gs.map V.ref ++ [.non], fun v => decide (v ≠ .non), rfl, .inl (SqL.of upd_same), by rw [List.length_append, List.length_map, gl]; decide, fun x mx => ?_, .non, by simp, rfl⟩) (heard_out (p := "asks") (by simp) fun t H2 s2 e2 => ?_)⟩
    · rcases List.mem_append.mp mx with mx | mx
      · obtain ⟨q1, mq, rfl⟩ := List.mem_map.mp mx
        obtain ⟨j, hj, ej⟩ := List.mem_iff_getElem.mp mq
        have hj2 : j < (greatR b m).length := by rw [← gk1.1]; exact hj
        obtain ⟨dq, hq⟩ := (gk1.2 j q1 _ (by rw [List.getElem?_eq_getElem hj, ej]) (List.getElem?_eq_getElem hj2)).mono s4
        exact ⟨_, .base (A.ty _ q1 dq _ hq), by rw [A.me]; exact congrArg some (decide_eq_true (fun z => nomatch z)).symm⟩
      · rcases List.mem_cons.mp mx with rfl | mx
        · exact ⟨_, .base .non, by rw [A.no "NoneType" (by simp)]; rfl⟩
        · cases mx
    obtain ⟨hl2, hr2_⟩ := hrr.step x1_ T1 (s4.trans s2) (d := askT "asks") e2
    refine ⟨HL2, _, _, rfl, rfl, hl2, ?_, ?_⟩
    · rw [List.length_map, hrr.at_.1]
      exact Nat.lt_of_le_of_lt (show _ ≤ 100 from by simp only [List.length_append, List.length_cons, List.length_nil]; decide) (show 100 < sizeLine by decide)
    generalize upd H2 HL2 (.lst (us.map V.ref ++ [.ref t])) = HQ at hr2_ ⊢
    clear hrr hl2 e2 s2 s4 hG1 gk1 kn1 hG2 hL T1 x1_ kk
    -- the end
    refine ⟨.ref HL2, rfl, by show 3 ≤ sizeLine; decide, fun U1 hU1 => ⟨by show 2 ≤ sizeLine; decide, fun U2 hU2 => ⟨by show 2 ≤ sizeLine; decide, fun X1 hX1 => ?_⟩⟩⟩
    have sU := same_new (o := .tup [.str "many", .str "'asks'", .str "1000"]) hU1
    have fU1 : upd HQ U1 (.tup [.str "many", .str "'asks'", .str "1000"]) U1 = some (.tup (manyT.map V.str)) := by rw [upd_same]; unfold manyT; rw [asks_shown, thousand_shown]; rfl
    generalize upd HQ U1 (.tup [.str "many", .str "'asks'", .str "1000"]) = J1 at sU fU1 hU2 hX1 ⊢
    have sV := same_new (o := .tup [.str "ask", .str "'asks'"]) hU2
    have fU2 : upd J1 U2 (.tup [.str "ask", .str "'asks'"]) U2 = some (.tup ((askT "asks").map V.str)) := by rw [upd_same]; unfold askT; rw [asks_shown]; rfl
    replace fU1 := sV _ _ fU1
    generalize upd J1 U2 (.tup [.str "ask", .str "'asks'"]) = J2 at sV fU1 fU2 hX1 ⊢
    have sW := same_new (o := .lst [.ref U1, .ref U2]) hX1
    have fX : upd J2 X1 (.lst [.ref U1, .ref U2]) X1 = some (.lst (([U1, U2] : List Addr).map V.ref)) := upd_same
    replace fU1 := sW _ _ fU1
    replace fU2 := sW _ _ fU2
    generalize upd J2 X1 (.lst [.ref U1, .ref U2]) = J3 at sW fU1 fU2 fX ⊢
    have sF := sU.trans (sV.trans sW)
    have taX : TupsAt J3 [U1, U2] [manyT, askT "asks"] := ⟨rfl, fun i t d e1 e2 => by
      rcases i with _ | _ | i
      · cases e1; cases e2; exact fU1
      · cases e1; cases e2; exact fU2
      · cases e1⟩
    have shX : SeqAt.shaped (dsD [manyT, askT "asks"]) = true := ds_shaped fun d md => by
      rcases List.mem_cons.mp md with rfl | md
      · exact can_manyT
      rcases List.mem_cons.mp md with rfl | md
      · exact can_askT
      · cases md
    refine ⟨dsD [manyT, askT "asks"], dsD [manyT, askT "asks"], ds_dp (sF _ _ hr2_.hl) (tups_mono sF hr2_.at_), ds_dp fX taX, shX, shX, ?_⟩
    rw [show PyData.eqv (dsD [manyT, askT "asks"]) (dsD [manyT, askT "asks"]) = true from eqv_ds _]
    exact q _
end
end K34
end

section
set_option Elab.async false
set_option linter.all false
set_option maxRecDepth 100000
set_option maxHeartbeats 4000000
/-! the law -/
namespace K34
open PySem PySem.Spec PyProof.Rows L2 KZ
abbrev sLaw : Stmt := top 34
structure CalG (P : Program) (w : World) (K : PySem.W.Frag) (mg : Str → Option Value) (base : Heap) (x : Str) (n : Nat) (sp : Sp) : Prop where
  ex : ∃ f fd, mg x = some (.ref f) ∧ FnG P w K mg base CX0 n f fd ["well"] sp ∧ PySem.W.keepIn K (.ref f) = true ∧ Binds K fd ["well"] []
def spLaw (K : PySem.W.Frag) (T0 : List (Addr × Str)) : Sp := fun vs H Q _ => ∃ (a : Addr) (ns : List Int), vs = [.ref a] ∧ SqL K H a (ns.map V.int) ∧ ns.length ≤ 63 ∧ (∀ p ∈ T0, H p.1 = some (.tbl #[])) ∧ ∀ H', Q (.bl true) H'
def lateR : List Row := [⟨"p", false, 0, none, none⟩, ⟨"p", false, 1, none, none⟩, ⟨"q", true, 2, some 4, some 1⟩, ⟨"r", true, 3, some 6, none⟩, ⟨"r", true, 7, none, none⟩]
theorem late_ok : ∀ r ∈ lateR, r.Ok := by
  intro r h
  unfold lateR at h
  rcases List.mem_cons.mp h with rfl | h
  · exact row_ok' (by decide +kernel) (by decide) (fun x z => nomatch z) (fun x z => nomatch z)
  rcases List.mem_cons.mp h with rfl | h
  · exact row_ok' (by decide +kernel) (by decide) (fun x z => nomatch z) (fun x z => nomatch z)
  rcases List.mem_cons.mp h with rfl | h
  · exact row_ok' (by decide +kernel) (by decide) (fun x z => by cases z; decide) (fun x z => ⟨rfl, (fun y => nomatch y), by cases z; decide⟩)
  rcases List.mem_cons.mp h with rfl | h
  · exact row_ok' (by decide +kernel) (by decide) (fun x z => by cases z; decide) (fun x z => nomatch z)
  rcases List.mem_cons.mp h with rfl | h
  · exact row_ok' (by decide +kernel) (by decide) (fun x z => nomatch z) (fun x z => nomatch z)
  · cases h
theorem late_nobad : firstBad lateR = none := by decide +kernel
theorem late_parts : partsD lateR = .tuple [.int 1, .int 2, .int 3] := by
  unfold partsD
  rw [show partsOf lateR = [1, 2, 3] from by decide +kernel]
  rfl
theorem late_zones : zonesD lateR = .tuple [.tuple [.none, .int (-1), .int 3], .tuple [.int 1, .int 4, .int 2]] := by
  unfold zonesD
  rw [show zonesOf lateR = [(none, -1, 3), (some 1, 4, 2)] from by decide +kernel]
  rfl
theorem nil_parts : partsD [] = .tuple [] := rfl
theorem nil_zones : zonesD [] = .tuple [] := by
  unfold zonesD
  rw [show zonesOf [] = [] from by decide +kernel]
  rfl
section
variable {P : Program} {w : World} {K : PySem.W.Frag} {mg : Str → Option Value} {base : Heap} {C cO cB cT : Addr}
theorem scLaw : FnScope ["script", "well", "late", "turn"] ["script"] (defScope sLaw) := ⟨rfl, rfl, rfl, by decide +kernel, rfl, by decide +kernel, by decide +kernel⟩
theorem ok_law {f fW : Addr} {fd dW : FuncData} {T0 : List (Addr × Str)} (F : Fun K "law" "law" sLaw f fd) (T : B1 mg) (A : AskC K mg C) (L : LF P w K mg base C) (IF : InitF P w K mg base C cB) (gW : mg "_law_well" = some (.ref fW)) (GW : FnOk P w K mg base CX0 1 fW dW ["script"] (spPen K)) (kW : PySem.W.keepIn K (.ref fW) = true) (bW : Binds K dW ["script"] [])
    (HR : CalG P w K mg base "_law_history_right" 11 spHR) (RR : CalG P w K mg base "_law_refused_right" 13 (spUR T0)) (UR : CalG P w K mg base "_law_unlike_right" 13 (spUR T0)) (NH : CalG P w K mg base "_law_no_history_right" 13 (spNH T0)) : FnG P w K mg base CX0 14 f fd ["script"] (spLaw K T0) := by
  obtain ⟨fP, dP, gP, GP, kP, bP, kbP⟩ := L.parts.ex
  obtain ⟨fZ, dZ, gZ, GZ, kZ, bZ, kbZ⟩ := L.zones.ex
  obtain ⟨fI, dI, MK, GI, bI5, ⟨ds4, vI4, bI4⟩, ⟨ds3, vI3, bI3⟩, ⟨g1, kb1⟩, ⟨g4, kb4⟩⟩ := IF.ex
  let spI0 : Sp := fun vs H Q _ => spInit K C cB vs H Q fun _ _ _ => False
  have GI0 : FnOk P w K mg base CX0 8 fI dI psI spI0 := FnOk.x0 GI
  obtain ⟨f1, d1, gHR, GHR, kHR, bHR⟩ := HR.ex
  obtain ⟨f2, d2, gRR, GRR, kRR, bRR⟩ := RR.ex
  obtain ⟨f3, d3, gUR, GUR, kUR, bUR⟩ := UR.ex
  obtain ⟨f4, d4, gNH, GNH, kNH, bNH⟩ := NH.ex
  refine okG F scLaw (fun vs H Q E h => ?_) (fun cdv A' outer s0 H vs Q E hgd hr h => ?_)
  · obtain ⟨a, ns, rfl, _⟩ := h
    rfl
  · obtain ⟨a, ns, rfl, hs, hl, ht, q⟩ := h
    have hr13 : Room 13 _ := hr
    have hr11 : Room 11 _ := hr.mono (by decide)
    have hr9 : Room 9 _ := hr.mono (by decide)
    have hr8 : Room 8 _ := hr.mono (by decide)
    have hr1 : Room 1 _ := hr.mono (by decide)
    refine ⟨_, (pss_cons (ps_set (i := 1) scLaw.nd rfl (Or.inl rfl) (pe_call GW hr1 (by rfl) gW kW bW .nil pass0 (pa_cons (pv 0) pa_nil)))
(pss_cons (ps_set (i := 2) scLaw.nd rfl (Or.inl rfl) (pe_lst (pa_cons (pe_make MK GI0 hr9 (by rfl) A.mg bI3 vI3 pass0 (pa_cons pe_str (pa_cons pe_str (pa_cons pe_int pa_nil)))) (pa_cons (pe_make MK GI0 hr9 (by rfl) A.mg bI3 vI3 pass0 (pa_cons pe_str (pa_cons pe_str (pa_cons pe_int pa_nil)))) (pa_cons (pe_make MK GI0 hr9 (by rfl) A.mg bI5 .nil pass0 (pa_cons pe_str (pa_cons pe_str (pa_cons pe_int (pa_cons pe_int (pa_cons pe_int pa_nil)))))) (pa_cons (pe_make MK GI0 hr9 (by rfl) A.mg bI4 vI4 pass0 (pa_cons pe_str (pa_cons pe_str (pa_cons pe_int (pa_cons pe_int pa_nil))))) (pa_cons (pe_make MK GI0 hr9 (by rfl) A.mg bI3 vI3 pass0 (pa_cons pe_str (pa_cons pe_str (pa_cons pe_int pa_nil)))) pa_nil)))))))
(pss_cons (ps_if (PW.pt (pw_or (pt_cmpR (op_neD hr.units) (pe_call GP hr8 (by rfl) gP kP bP .nil pass0 (pa_cons (pv 2) pa_nil)) (pe_tup (pa_cons pe_int (pa_cons pe_int (pa_cons pe_int pa_nil)))) (nomark _)) (pw_or (pt_cmpR (op_neD hr.units) (pe_call GZ hr8 (by rfl) gZ kZ bZ .nil pass0 (pa_cons (pv 2) pa_nil)) (pe_tup (pa_cons (pe_tup (pa_cons pe_non (pa_cons (pe_un un_neg pe_int) (pa_cons pe_int pa_nil)))) (pa_cons (pe_tup (pa_cons pe_int (pa_cons pe_int (pa_cons pe_int pa_nil)))) pa_nil))) (nomark _)) (pw_or (pt_cmpR (op_neD hr.units) (pe_call GP hr8 (by rfl) gP kP bP .nil pass0 (pa_cons (pe_lst pa_nil) pa_nil)) (pe_tup pa_nil) (nomark _)) (pw_or1 (pt_cmpR (op_neD hr.units) (pe_call GZ hr8 (by rfl) gZ kZ bZ .nil pass0 (pa_cons (pe_tup pa_nil) pa_nil)) (pe_tup pa_nil) (nomark _)))))))
(pss_one (ps_ret pe_bl))
pss_nil)
(pss_cons (ps_for PassesOwn.never rfl (pi_range1 (by rfl) T.range (pa_cons pe_int pa_nil)) (pg_name (i := 3) scLaw.nd rfl (Or.inl rfl))
(pss_one (ps_if (PW.pt (pw_or (pt_not (pt_val (pe_callG GHR hgd hr11 (by rfl) gHR kHR bHR .nil pass0 (pa_cons (pv 1) pa_nil)))) (pw_or1 (pt_not (pt_val (pe_callG GRR hgd hr13 (by rfl) gRR kRR bRR .nil pass0 (pa_cons (pv 1) pa_nil)))))))
(pss_one (ps_ret pe_bl))
pss_nil)))
(pss_one (ps_ret (pe_and (pe_callG GUR hgd hr13 (by rfl) gUR kUR bUR .nil pass0 (pa_cons (pv 1) pa_nil)) (pe_one (pe_callG GNH hgd hr13 (by rfl) gNH kNH bNH .nil pass0 (pa_cons (pv 1) pa_nil)))))))))), ?_⟩
    refine ⟨.ref a, rfl, a, ns, rfl, hs, hl, fun p c cells H0 hp hc s1 pen => ?_⟩
    have tabs : LamX.Tabs T0 H0 := fun t h => LamX.TabS.nil (s1 _ _ (ht t h))
    clear s1 ht hs
    have ok : ∀ r ∈ lateR, r.Ok ∧ r.c.length ≤ 1000 := fun r m => ⟨late_ok r m, by
      have h : lateR.all (fun r => decide (r.c.length ≤ 1000)) = true := by decide +kernel
      exact of_decide_eq_true (List.all_eq_true.mp h r m)⟩
    have o0 := ok ⟨"p", false, 0, none, none⟩ (by unfold lateR; simp)
    have o1 := ok ⟨"p", false, 1, none, none⟩ (by unfold lateR; simp)
    have o2 := ok ⟨"q", true, 2, some 4, some 1⟩ (by unfold lateR; simp)
    have o3 := ok ⟨"r", true, 3, some 6, none⟩ (by unfold lateR; simp)
    have o4 := ok ⟨"r", true, 7, none, none⟩ (by unfold lateR; simp)
    refine fun x0 dx0 hx hdx ne => mk_row (r := ⟨"p", false, 0, none, none⟩) o0.1 o0.2 hx hdx ne fun H1 s1 a0 => ⟨rfl, ?_⟩
    have sA := s1
    clear s1 hx hdx ne
    refine fun x1 dx1 hx hdx ne => mk_row (r := ⟨"p", false, 1, none, none⟩) o1.1 o1.2 hx hdx ne fun H2 s2 a1 => ⟨rfl, ?_⟩
    replace a0 := a0.mono s2
    replace sA := sA.trans s2
    clear s2 hx hdx ne
    refine fun x2 dx2 hx hdx ne => mk_row (r := ⟨"q", true, 2, some 4, some 1⟩) o2.1 o2.2 hx hdx ne fun H3 s3 a2 => ⟨rfl, ?_⟩
    replace a0 := a0.mono s3
    replace a1 := a1.mono s3
    replace sA := sA.trans s3
    clear s3 hx hdx ne
    refine fun x3 dx3 hx hdx ne => mk_row (r := ⟨"r", true, 3, some 6, none⟩) o3.1 o3.2 hx hdx ne fun H4 s4 a3 => ⟨rfl, ?_⟩
    replace a0 := a0.mono s4
    replace a1 := a1.mono s4
    replace a2 := a2.mono s4
    replace sA := sA.trans s4
    clear s4 hx hdx ne
    refine fun x4 dx4 hx hdx ne => mk_row (r := ⟨"r", true, 7, none, none⟩) o4.1 o4.2 hx hdx ne fun H5 s5 a4 => ⟨rfl, ?_⟩
    replace a0 := a0.mono s5
    replace a1 := a1.mono s5
    replace a2 := a2.mono s5
    replace a3 := a3.mono s5
    replace sA := sA.trans s5
    clear s5 hx hdx ne
    refine ⟨by show 5 ≤ sizeLine; decide, fun LA hLA => ?_⟩
    have sN := same_new (o := .lst [.ref x0, .ref x1, .ref x2, .ref x3, .ref x4]) hLA
    have fL : upd H5 LA (.lst [.ref x0, .ref x1, .ref x2, .ref x3, .ref x4]) LA = some (.lst (([x0, x1, x2, x3, x4] : List Addr).map V.ref)) := upd_same
    replace a0 := a0.mono sN
    replace a1 := a1.mono sN
    replace a2 := a2.mono sN
    replace a3 := a3.mono sN
    replace a4 := a4.mono sN
    replace sA := sA.trans sN
    clear sN hLA
    generalize upd H5 LA (.lst [.ref x0, .ref x1, .ref x2, .ref x3, .ref x4]) = HL at sA fL a0 a1 a2 a3 a4 ⊢
    have am : AsksAt C HL [x0, x1, x2, x3, x4] lateR := ⟨rfl, fun i q r e1 e2 => by
      rcases i with _ | _ | _ | _ | _ | i
      · cases e1; cases e2; exact a0
      · cases e1; cases e2; exact a1
      · cases e1; cases e2; exact a2
      · cases e1; cases e2; exact a3
      · cases e1; cases e2; exact a4
      · cases e1⟩
    have penL := pen.mono sA (Nat.le_refl 0)
    have tabsL := tabs_same tabs sA
    clear a0 a1 a2 a3 a4 sA pen tabs
    refine nx_go ?_
    dsimp only
    refine if_no (fun H' => Same HL H') (fun Qb z => ?_) (fun HM sM => ?_)
    · have hist : ∀ {H'}, Same HL H' → Hist K C H' LA lateR := fun s' => ⟨[x0, x1, x2, x3, x4], .inl (SqL.of (s' _ _ fL)), ask_mono s' am⟩
      refine ⟨.ref LA, rfl, LA, lateR, rfl, hist (Same.refl _), by decide, late_ok, late_nobad, fun p1 H6 s6 e1 => ⟨by show 3 ≤ sizeLine; decide, fun T1 hT1 => ?_⟩⟩
      refine ⟨partsD lateR, .tuple [.int 1, .int 2, .int 3], parts_dp (same_new hT1 _ _ e1), .tup (SqT.of upd_same) (.cons (.int _) (.cons (.int _) (.cons (.int _) .nil))), parts_shaped _, by decide +kernel, false, (by rw [late_parts]; rfl), iteF' ?_⟩
      have s7 := s6.trans (same_new (o := .tup [.int 1, .int 2, .int 3]) hT1)
      refine ⟨.ref LA, rfl, LA, lateR, rfl, hist s7, by decide, late_ok, late_nobad, fun p2 H8 s8 e2 => ⟨1, rfl, by show 3 ≤ sizeLine; decide, fun T2 hT2 => ⟨by show 3 ≤ sizeLine; decide, fun T3 hT3 => ⟨by show 2 ≤ sizeLine; decide, fun T4 hT4 => ?_⟩⟩⟩⟩
      have sB := same_new (o := .tup [.non, .int (-1), .int 3]) hT2
      have f2 : upd H8 T2 (.tup [.non, .int (-1), .int 3]) T2 = some (.tup [.non, .int (-1), .int 3]) := upd_same
      generalize upd H8 T2 (.tup [.non, .int (-1), .int 3]) = G2 at sB f2 hT3 hT4 ⊢
      have sC := same_new (o := .tup [.int 1, .int 4, .int 2]) hT3
      have f3 : upd G2 T3 (.tup [.int 1, .int 4, .int 2]) T3 = some (.tup [.int 1, .int 4, .int 2]) := upd_same
      generalize upd G2 T3 (.tup [.int 1, .int 4, .int 2]) = G3 at sC f3 hT4 ⊢
      have sD := same_new (o := .tup [.ref T2, .ref T3]) hT4
      have f4 : upd G3 T4 (.tup [.ref T2, .ref T3]) T4 = some (.tup [.ref T2, .ref T3]) := upd_same
      generalize upd G3 T4 (.tup [.ref T2, .ref T3]) = G4 at sD f4 ⊢
      have sE := sB.trans (sC.trans sD)
      have e3 : ZonesAt G4 p2 (zonesOf lateR) := by
        obtain ⟨qs, b1, b2, b3⟩ := e2
        exact ⟨qs, sE _ _ b1, b2, fun i q z x y => sE _ _ (b3 i q z x y)⟩
      refine ⟨zonesD lateR, .tuple [.tuple [.none, .int (-1), .int 3], .tuple [.int 1, .int 4, .int 2]], zones_dp e3, .tup (SqT.of f4) (.cons (.tup (SqT.of ((sC.trans sD) _ _ f2)) (.cons .non (.cons (.int _) (.cons (.int _) .nil)))) (.cons (.tup (SqT.of (sD _ _ f3)) (.cons (.int _) (.cons (.int _) (.cons (.int _) .nil)))) .nil)), zones_shaped _, by decide +kernel, false, (by rw [late_zones]; rfl), iteF' ?_⟩
      have s9 := (s7.trans s8).trans sE
      have nilH : ∀ {H' : Hp} {a' : Addr}, Sq K H' a' [] → Hist K C H' a' [] := fun h => ⟨[], h, rfl, fun i q r e1 e2 => by cases e1⟩
      refine ⟨Nat.zero_le _, fun L0 hL0 => ⟨L0, [], rfl, nilH (.inl (SqL.of upd_same)), Nat.zero_le _, fun r m => (nomatch m), rfl, fun p3 HA sA e4 => ⟨Nat.zero_le _, fun T5 hT5 => ?_⟩⟩⟩
      refine ⟨partsD [], .tuple [], parts_dp (same_new hT5 _ _ e4), .tup (SqT.of upd_same) .nil, parts_shaped _, by decide +kernel, false, rfl, iteF' ?_⟩
      have sF := (s9.trans (same_new (o := .lst []) hL0)).trans (sA.trans (same_new (o := .tup []) hT5))
      generalize upd HA T5 (.tup []) = HB at sF ⊢
      refine ⟨Nat.zero_le _, fun T6 hT6 => ⟨T6, [], rfl, nilH (.inr (SqT.of upd_same)), Nat.zero_le _, fun r m => (nomatch m), rfl, fun p5 HC sC5 e5 => ⟨Nat.zero_le _, fun T7 hT7 => ?_⟩⟩⟩
      have e6 : ZonesAt (upd HC T7 (.tup [])) p5 (zonesOf []) := by
        obtain ⟨qs, b1, b2, b3⟩ := e5
        exact ⟨qs, same_new hT7 _ _ b1, b2, fun i q z x y => same_new hT7 _ _ (b3 i q z x y)⟩
      refine ⟨zonesD [], .tuple [], zones_dp e6, .tup (SqT.of upd_same) .nil, zones_shaped _, by decide +kernel, false, (by rw [nil_zones]; rfl), z _ ?_⟩
      exact sF.trans ((same_new hT6).trans (sC5.trans (same_new hT7)))
    have penM := penL.mono sM (Nat.le_refl _)
    have tabsM := tabs_same tabsL sM
    clear penL tabsL sM am fL
    refine ⟨4, rfl, by decide, by decide, for_range (n := 4) (fun i σ H' => ∃ x3, σ = [some (.ref a), some (.ref p), some (.ref LA), x3] ∧ PenAt H' p c cells (120 * i) ∧ LamX.Tabs T0 H') ⟨_, rfl, penM, tabsM⟩ ?_ ?_⟩
    · rintro i σ H6 hi ⟨x3, rfl, pen6, tabs6⟩
      refine nx_go ?_
      refine if_noL (fun H' => PenAt H' p c cells (120 * (i + 1)) ∧ LamX.Tabs T0 H') (fun Qb z => ?_) (fun H9 t9 => ⟨_, rfl, t9⟩)
      refine ⟨.ref p, rfl, p, c, cells, _, rfl, pen6, by omega, fun H7 pen7 kp7 => ⟨true, rfl, iteF' ?_⟩⟩
      refine ⟨.ref p, rfl, p, c, cells, _, rfl, pen7, by omega, tabs_kept tabs6 pen6 kp7, fun H8 pen8 tabs8 => ⟨true, rfl, z _ ⟨pen8.more (by omega), tabs8⟩⟩⟩
    · rintro σ H6 ⟨x3, rfl, pen6, tabs6⟩
      exact ⟨.ref p, rfl, p, c, cells, _, rfl, pen6, by omega, tabs6, fun H7 pen7 tabs7 => ⟨true, rfl, iteT' ⟨.ref p, rfl, p, c, cells, _, rfl, pen7, by omega, tabs7, q⟩⟩⟩
end
end K34
end

section
set_option Elab.async false
set_option linter.all false
set_option maxRecDepth 100000
set_option maxHeartbeats 4000000
/-! joined -/
namespace K34
open PySem PySem.Spec PyProof.Rows L2 KZ
abbrev args1 (x : Str) (p0 p1 : Pos) : Arguments := ⟨[], [⟨"self", none, p0⟩, ⟨x, none, p1⟩], none, [], [], none, []⟩
abbrev args2 (x y : Str) (p0 p1 p2 : Pos) : Arguments := ⟨[], [⟨"self", none, p0⟩, ⟨x, none, p1⟩, ⟨y, none, p2⟩], none, [], [], none, []⟩
section
variable {nm q : Str} {p0 p1 p2 : Pos} {body : List Stmt} {scope : Scope} {kV doc pm cdv ct s v u : Value} {an : Option Addr}
theorem b1k_part : bindArgs (PySem.W.fnOf nm q (args1 "part" p0 p1) body scope .none kV doc pm an cdv ct) ⟨[s], [("part", v)]⟩ = (pure [(("self" : Str), s), (("part" : Str), v)] : Sem (List (Str × Value))) := rfl
theorem b1p_part : bindArgs (PySem.W.fnOf nm q (args1 "part" p0 p1) body scope .none kV doc pm an cdv ct) ⟨[s, v], []⟩ = (pure [(("self" : Str), s), (("part" : Str), v)] : Sem (List (Str × Value))) := rfl
theorem b2k_what : bindArgs (PySem.W.fnOf nm q (args2 "what" "most" p0 p1 p2) body scope .none kV doc pm an cdv ct) ⟨[s], [("most", u), ("what", v)]⟩ = (pure [(("self" : Str), s), (("what" : Str), v), (("most" : Str), u)] : Sem (List (Str × Value))) := rfl
theorem b2m_what : bindArgs (PySem.W.fnOf nm q (args2 "what" "most" p0 p1 p2) body scope .none kV doc pm an cdv ct) ⟨[s, v], [("most", u)]⟩ = (pure [(("self" : Str), s), (("what" : Str), v), (("most" : Str), u)] : Sem (List (Str × Value))) := rfl
theorem b2p_what : bindArgs (PySem.W.fnOf nm q (args2 "what" "most" p0 p1 p2) body scope .none kV doc pm an cdv ct) ⟨[s, v, u], []⟩ = (pure [(("self" : Str), s), (("what" : Str), v), (("most" : Str), u)] : Sem (List (Str × Value))) := rfl
end
theorem errI_ok {K : PySem.W.Frag} {mg : Str → Option Value} {nm : Str} {C : Addr} {fs : List Str} (h : errI K C fs = true) (g : mg nm = some (.ref C)) : ErrC K mg nm C (He.ma K C "__init__") fs := by
  obtain ⟨h0, h⟩ := He.ba h
  obtain ⟨h1, h⟩ := He.ba h
  obtain ⟨h2, h⟩ := He.ba h
  obtain ⟨h3, h⟩ := He.ba h
  obtain ⟨h4, h⟩ := He.ba h
  obtain ⟨h5, h⟩ := He.ba h
  obtain ⟨h6, h7⟩ := He.ba h
  have T := errB_ok h0
  exact ⟨⟨oexB_ok h1, He.eqO_ok h2, T.be, of_decide_eq_true h3, h4⟩, T, He.eqO_ok h5, of_decide_eq_true h6, fun f hf => He.eqO_ok (List.all_eq_true.mp h7 f hf), g⟩
section
variable {P : Program} {w : World} {K : PySem.W.Frag} {mg : Str → Option Value} {base : Heap} {fC : Addr} {dC fd : FuncData}
theorem mk_BadAsk (h : errI K (He.ga K "BadAsk") ["part"] = true) (g : mg "BadAsk" = some (.ref (He.ga K "BadAsk"))) (F : Fun K "__init__" "BadAsk.__init__" (mem 8 0) (He.ma K (He.ga K "BadAsk") "__init__") fd) (T : B0 mg) (gC : mg "copied" = some (.ref fC)) (FC : Fun K "copied" "copied" sCopied fC dC) (bC : Binds K dC ["value"] []) :
    Mk1 P w K mg base "BadAsk" (He.ga K "BadAsk") "part" "part" := by
  have E := errI_ok h g
  refine ⟨_, fd, E, ok_init1 (st := mem 8 0) rfl ⟨rfl, rfl, rfl, by decide +kernel, rfl, by decide +kernel, by decide +kernel⟩ rfl rfl rfl (by decide) (by decide) F E.ox (E.no _ List.mem_cons_self) T gC FC bC, ?_, ?_⟩
  · exact F.binds (ps := ["self", "part"]) fun _ _ _ _ _ _ us hl => match us, hl with | [_, _], _ => b1p_part
  · exact kb_self F (fun _ _ _ _ _ _ _ _ => b1k_part) (fun _ _ _ _ _ _ _ _ => b1p_part)
theorem mk_TooMany (h : errI K (He.ga K "TooMany") ["what", "most"] = true) (g : mg "TooMany" = some (.ref (He.ga K "TooMany"))) (F : Fun K "__init__" "TooMany.__init__" (mem 9 0) (He.ma K (He.ga K "TooMany") "__init__") fd) (T : B0 mg) (gC : mg "copied" = some (.ref fC)) (FC : Fun K "copied" "copied" sCopied fC dC) (bC : Binds K dC ["value"] []) :
    Mk2 P w K mg base "TooMany" (He.ga K "TooMany") "what" "most" "what" "most" := by
  have E := errI_ok h g
  refine ⟨_, fd, E, ok_init2 (st := mem 9 0) rfl ⟨rfl, rfl, rfl, by decide +kernel, rfl, by decide +kernel, by decide +kernel⟩ rfl rfl rfl rfl (by decide) (by decide) (by decide) (by decide) F E.ox (E.no _ List.mem_cons_self) (E.no _ (List.mem_cons_of_mem _ List.mem_cons_self)) T gC FC bC, ?_, ?_⟩
  · exact F.binds (ps := ["self", "what", "most"]) fun _ _ _ _ _ _ us hl => match us, hl with | [_, _, _], _ => b2p_what
  · exact kb_self2 F (fun _ _ _ _ _ _ _ _ _ => b2k_what) (fun _ _ _ _ _ _ _ _ _ => b2m_what) (fun _ _ _ _ _ _ _ _ _ => b2p_what)
theorem vals_reverse {vs : List V} {us : List Value} (h : Vals vs us) : Vals vs.reverse us.reverse := by
  induction h with
  | nil => exact .nil
  | cons a _ ih =>
    rw [List.reverse_cons, List.reverse_cons]
    exact ih.append (.cons a .nil)
theorem init_f {f C cB fK : Addr} {dK : FuncData} (F : FunD K "__init__" "Ask.__init__" (defArgs sInit) (defBody sInit) (defScope sInit) [.non, .non] [] f fd) (M : Mk K C f) (G : FnOk P w K mg base (L2.CX P w) 8 f fd psI (spInit K C cB)) : InitF P w K mg base C cB := by
  refine ⟨f, fd, M, G, ?_, ?_, ?_, ?_, ?_⟩
  · obtain ⟨ds, v, b⟩ := F.binds1 (ps := psI) 6 2 (by decide) rfl fun T kV doc pm an cdv ct us its h1 h2 => match us, its, h1, h2 with
      | [_, _, _, _, _, _], [_, _], _, _ => ⟨_, rfl, rfl⟩
    cases v
    exact b
  · exact F.binds1 (ps := psI) 5 1 (by decide) rfl fun T kV doc pm an cdv ct us its h1 h2 => match us, its, h1, h2 with
      | [_, _, _, _, _], [_, _], _, _ => ⟨_, rfl, rfl⟩
  · exact F.binds1 (ps := psI) 4 0 (by decide) rfl fun T kV doc pm an cdv ct us its h1 h2 => match us, its, h1, h2 with
      | [_, _, _, _], [_, _], _, _ => ⟨_, rfl, rfl⟩
  · obtain ⟨its, k⟩ := F.kbindsD (ps := psI) 1 ["told", "ended", "begun", "word", "client"] (fun us _ ws => us ++ ws.reverse) (by decide) (fun a _ b => a.append (vals_reverse b)) fun T kV doc pm an cdv ct us its ws h1 h2 h3 => match us, its, ws, h1, h2, h3 with
      | [_], [_, _], [_, _, _, _, _], _, _, _ => ⟨_, rfl, rfl⟩
    exact ⟨_, k⟩
  · obtain ⟨its, k⟩ := F.kbindsD (ps := psI) 4 ["ended", "told"] (fun us _ ws => us ++ ws) (by decide) (fun a _ b => a.append b) fun T kV doc pm an cdv ct us its ws h1 h2 h3 => match us, its, ws, h1, h2, h3 with
      | [_, _, _, _], [_, _], [_, _], _, _, _ => ⟨_, rfl, rfl⟩
    exact ⟨_, k⟩
theorem parts_x {C cB cT f : Addr} (G : FnOk P w K mg base (L2.CX P w) 8 f fd ["asks"] (spPartsD K C cB cT)) : FnOk P w K mg base CX0 8 f fd ["asks"] (spPartsX K C) :=
  (FnOk.x0 G).imp fun vs H Q E ⟨a, rs, e, hist, hl, ok, nb, q⟩ => ⟨.ref a, e, .inr (.inr ⟨a, rs, rfl, hist, by omega, ok, fun z => absurd z (by omega), (fun _ i hi => by rw [nb] at hi; cases hi), fun _ _ => q⟩)⟩
theorem zones_x {C cB cT f : Addr} (G : FnOk P w K mg base (L2.CX P w) 8 f fd ["asks"] (spZones K C cB cT)) : FnOk P w K mg base CX0 8 f fd ["asks"] (spZonesX K C) :=
  (FnOk.x0 G).imp fun vs H Q E ⟨a, rs, e, hist, hl, ok, nb, q⟩ => ⟨.ref a, e, .inr (.inr ⟨a, rs, rfl, hist, by omega, ok, fun z => absurd z (by omega), (fun _ i hi => by rw [nb] at hi; cases hi), fun _ _ => q⟩)⟩
theorem ahead_x {C cB f : Addr} (G : FnOk P w K mg base (L2.CX P w) 7 f fd ["self", "other"] (spAhead K C cB)) : FnOk P w K mg base CX0 7 f fd ["self", "other"] (spAheadX C) :=
  (FnOk.x0 G).imp fun vs H Q E ⟨a, r, b, s, e, ha, hb, q⟩ => ⟨a, r, .ref b, e, ha, .inl ⟨b, s, rfl, hb, q⟩⟩
end
theorem code_eq {K : PySem.W.Frag} {x qual : Str} {st : Stmt} {p : He.Defn} {fd : FuncData} (F : Fun K x qual st (He.fAd K p) fd) : fd.code = .ref (He.codeOf K p) := by
  obtain ⟨oc, od, kV, doc, pm, an, cdv, ct, osl, rfl, lk, hcd⟩ := F.ex
  show cdv = _
  cases cdv with
  | ref c => rw [He.codeOf_eq lk (c := c) rfl]
  | _ => cases hcd
def qU : Str := ("_law_unlike_right" : Str) ++ ".<locals>."
def qR : Str := ("_law_refused_right" : Str) ++ ".<locals>."
def qN : Str := ("_law_no_history_right" : Str) ++ ".<locals>."
def T0s (K : PySem.W.Frag) : List (Addr × Str) := [(tU K, qU ++ "<lambda>"), (tR K, qR ++ "<lambda>"), (tN K, qN ++ "<lambda>")]
theorem nbeq {a b : Addr} (h : (!(Nat.beq a b)) = true) : a ≠ b := fun z => by
  rw [z, Nat.beq_refl] at h
  cases h
theorem joined {w : World} {mg : Str → Option Value} {fa : Addr} {h : Heap} {K : PySem.W.Frag} (X : K.In h) (G : h.Ns mainGlobals mg) (hfa : mg "law" = some (.ref fa)) (c : He.SaysX fas fns [] tfs exC w h K) :
    LawG PySem.Challenge.rw_stayopen_k34_zones_of_histories w K 14 63 "script" mg fa h := by
  have cD : He.SaysD fas fns K := congrArg Prod.fst c.t
  obtain ⟨eB, hx⟩ := He.ba c.more
  obtain ⟨eT, hx⟩ := He.ba hx
  obtain ⟨hk_, hx⟩ := He.ba hx
  obtain ⟨hA, hx⟩ := He.ba hx
  obtain ⟨hF, hP⟩ := He.ba hx
  obtain ⟨hA1, hA⟩ := He.ba hA
  obtain ⟨hA2, hA⟩ := He.ba hA
  obtain ⟨hA3, hA⟩ := He.ba hA
  obtain ⟨hA4, hA5⟩ := He.ba hA
  obtain ⟨hF1, hF2⟩ := He.ba hF
  obtain ⟨hP1, hP⟩ := He.ba hP
  obtain ⟨hP2, hP3⟩ := He.ba hP
  have nUR := nbeq hP1
  have nUN := nbeq hP2
  have nRN := nbeq hP3
  have kit : ∀ (i : Nat) x, (kits K)[i]? = some x → PySem.W.kitOne K x.1 x.2.1 = some x.2.2 := fun i x e => of_decide_eq_true (List.all_eq_true.mp hk_ x (List.mem_of_getElem? e))
  have g_is_integer := He.glo_ok X G (cD.fact 0 (f := .glo "is_integer") rfl)
  have g_is_name := He.glo_ok X G (cD.fact 1 (f := .glo "is_name") rfl)
  have g_copied := He.glo_ok X G (cD.fact 2 (f := .glo "copied") rfl)
  have g_check_ask := He.glo_ok X G (cD.fact 3 (f := .glo "check_ask") rfl)
  have g_is_count := He.glo_ok X G (cD.fact 4 (f := .glo "is_count") rfl)
  have g_need_asks := He.glo_ok X G (cD.fact 5 (f := .glo "need_asks") rfl)
  have g_told_lots := He.glo_ok X G (cD.fact 6 (f := .glo "told_lots") rfl)
  have g_parts_of := He.glo_ok X G (cD.fact 7 (f := .glo "parts_of") rfl)
  have g_parts := He.glo_ok X G (cD.fact 8 (f := .glo "parts") rfl)
  have g_zones := He.glo_ok X G (cD.fact 9 (f := .glo "zones") rfl)
  have g__law_well := He.glo_ok X G (cD.fact 10 (f := .glo "_law_well") rfl)
  have g__law_draw := He.glo_ok X G (cD.fact 11 (f := .glo "_law_draw") rfl)
  have g__law_one := He.glo_ok X G (cD.fact 12 (f := .glo "_law_one") rfl)
  have g__law_rows := He.glo_ok X G (cD.fact 13 (f := .glo "_law_rows") rfl)
  have g__law_made := He.glo_ok X G (cD.fact 14 (f := .glo "_law_made") rfl)
  have g__law_parts := He.glo_ok X G (cD.fact 15 (f := .glo "_law_parts") rfl)
  have g__law_zone := He.glo_ok X G (cD.fact 16 (f := .glo "_law_zone") rfl)
  have g__law_zones := He.glo_ok X G (cD.fact 17 (f := .glo "_law_zones") rfl)
  have g__law_heard := He.glo_ok X G (cD.fact 18 (f := .glo "_law_heard") rfl)
  have g__law_history_right := He.glo_ok X G (cD.fact 19 (f := .glo "_law_history_right") rfl)
  have g__law_unlike_right := He.glo_ok X G (cD.fact 20 (f := .glo "_law_unlike_right") rfl)
  have g__law_refused_right := He.glo_ok X G (cD.fact 21 (f := .glo "_law_refused_right") rfl)
  have g__law_no_history_right := He.glo_ok X G (cD.fact 22 (f := .glo "_law_no_history_right") rfl)
  have g_law := He.glo_ok X G (cD.fact 23 (f := .glo "law") rfl)
  have g_OpenError := He.glo_ok X G (cD.fact 24 (f := .glo "OpenError") rfl)
  have g_BadAsk := He.glo_ok X G (cD.fact 25 (f := .glo "BadAsk") rfl)
  have g_TooMany := He.glo_ok X G (cD.fact 26 (f := .glo "TooMany") rfl)
  have g_Ask := He.glo_ok X G (cD.fact 27 (f := .glo "Ask") rfl)
  have z_isinstance := He.free_ok X G (cD.fact 28 (f := .free "isinstance") rfl)
  have z_int := He.free_ok X G (cD.fact 29 (f := .free "int") rfl)
  have z_bool := He.free_ok X G (cD.fact 30 (f := .free "bool") rfl)
  have z_str := He.free_ok X G (cD.fact 31 (f := .free "str") rfl)
  have z_len := He.free_ok X G (cD.fact 32 (f := .free "len") rfl)
  have z_all := He.free_ok X G (cD.fact 33 (f := .free "all") rfl)
  have z_list := He.free_ok X G (cD.fact 34 (f := .free "list") rfl)
  have z_tuple := He.free_ok X G (cD.fact 35 (f := .free "tuple") rfl)
  have z_dict := He.free_ok X G (cD.fact 36 (f := .free "dict") rfl)
  have z_range := He.free_ok X G (cD.fact 37 (f := .free "range") rfl)
  have z_max := He.free_ok X G (cD.fact 38 (f := .free "max") rfl)
  have z_min := He.free_ok X G (cD.fact 39 (f := .free "min") rfl)
  have z_sorted := He.free_ok X G (cD.fact 40 (f := .free "sorted") rfl)
  have z_repr := He.free_ok X G (cD.fact 41 (f := .free "repr") rfl)
  have z_abs := He.free_ok X G (cD.fact 42 (f := .free "abs") rfl)
  have z_enumerate := He.free_ok X G (cD.fact 43 (f := .free "enumerate") rfl)
  have z_ValueError := He.free_ok X G (cD.fact 44 (f := .free "ValueError") rfl)
  have cMost := He.int_ok X G (cD.fact 45 (f := .int "MOST_ASKS" 1000) rfl)
  have cLets := He.str_ok X G (cD.fact 46 (f := .str "LETTERS" "abcdefghijklmnopqrstuvwxyz") rfl)
  have mAsk := He.mkr_ok (cD.fact 47 (f := .mkr "Ask") rfl)
  have x_BadAsk := He.exm_ok (cD.fact 48 (f := .exm "BadAsk" "OpenError" true) rfl)
  have x_TooMany := He.exm_ok (cD.fact 49 (f := .exm "TooMany" "OpenError" true) rfl)
  have clA := He.cls_ok (cD.fact 50 (f := .cls "Ask") rfl)
  have na_client := He.noat_ok (cD.fact 51 (f := .noat "Ask" "client") rfl)
  have na_word := He.noat_ok (cD.fact 52 (f := .noat "Ask" "word") rfl)
  have na_begun := He.noat_ok (cD.fact 53 (f := .noat "Ask" "begun") rfl)
  have na_ended := He.noat_ok (cD.fact 54 (f := .noat "Ask" "ended") rfl)
  have na_told := He.noat_ok (cD.fact 55 (f := .noat "Ask" "told") rfl)
  have me_is_ahead := He.meth_ok (cD.fact 56 (f := .meth "Ask" "is_ahead") rfl)
  have me___eq__ := He.meth_ok (cD.fact 57 (f := .meth "Ask" "__eq__") rfl)
  obtain ⟨d_is_integer, F_is_integer⟩ := cD.def_ 0 rfl
  have F_is_integer : Fun K "is_integer" "is_integer" (top 2) (He.ga K "is_integer") d_is_integer := fun_of F_is_integer
  have b_is_integer := F_is_integer.binds (ps := ["value"]) fun _ _ _ _ _ _ us hl => match us, hl with | [_], _ => rfl
  obtain ⟨d_is_name, F_is_name⟩ := cD.def_ 1 rfl
  have F_is_name : Fun K "is_name" "is_name" (top 3) (He.ga K "is_name") d_is_name := fun_of F_is_name
  have b_is_name := F_is_name.binds (ps := ["value"]) fun _ _ _ _ _ _ us hl => match us, hl with | [_], _ => rfl
  obtain ⟨d_copied, F_copied⟩ := cD.def_ 2 rfl
  have F_copied : Fun K "copied" "copied" (top 5) (He.ga K "copied") d_copied := fun_of F_copied
  have b_copied := F_copied.binds (ps := ["value"]) fun _ _ _ _ _ _ us hl => match us, hl with | [_], _ => rfl
  obtain ⟨d_check_ask, F_check_ask⟩ := cD.def_ 3 rfl
  have F_check_ask : Fun K "check_ask" "check_ask" (top 15) (He.ga K "check_ask") d_check_ask := fun_of F_check_ask
  have b_check_ask := F_check_ask.binds (ps := ["client", "word", "begun", "ended", "told"]) fun _ _ _ _ _ _ us hl => match us, hl with | [_, _, _, _, _], _ => rfl
  obtain ⟨d_is_count, F_is_count⟩ := cD.def_ 4 rfl
  have F_is_count : Fun K "is_count" "is_count" (top 16) (He.ga K "is_count") d_is_count := fun_of F_is_count
  have b_is_count := F_is_count.binds (ps := ["value"]) fun _ _ _ _ _ _ us hl => match us, hl with | [_], _ => rfl
  obtain ⟨d_need_asks, F_need_asks⟩ := cD.def_ 5 rfl
  have F_need_asks : Fun K "need_asks" "need_asks" (top 17) (He.ga K "need_asks") d_need_asks := fun_of F_need_asks
  have b_need_asks := F_need_asks.binds (ps := ["asks"]) fun _ _ _ _ _ _ us hl => match us, hl with | [_], _ => rfl
  obtain ⟨d_told_lots, F_told_lots⟩ := cD.def_ 6 rfl
  have F_told_lots : Fun K "told_lots" "told_lots" (top 18) (He.ga K "told_lots") d_told_lots := fun_of F_told_lots
  have b_told_lots := F_told_lots.binds (ps := ["asks"]) fun _ _ _ _ _ _ us hl => match us, hl with | [_], _ => rfl
  obtain ⟨d_parts_of, F_parts_of⟩ := cD.def_ 7 rfl
  have F_parts_of : Fun K "parts_of" "parts_of" (top 19) (He.ga K "parts_of") d_parts_of := fun_of F_parts_of
  have b_parts_of := F_parts_of.binds (ps := ["asks"]) fun _ _ _ _ _ _ us hl => match us, hl with | [_], _ => rfl
  obtain ⟨d_parts, F_parts⟩ := cD.def_ 8 rfl
  have F_parts : Fun K "parts" "parts" (top 13) (He.ga K "parts") d_parts := fun_of F_parts
  have b_parts := F_parts.binds (ps := ["asks"]) fun _ _ _ _ _ _ us hl => match us, hl with | [_], _ => rfl
  obtain ⟨d_zones, F_zones⟩ := cD.def_ 9 rfl
  have F_zones : Fun K "zones" "zones" (top 14) (He.ga K "zones") d_zones := fun_of F_zones
  have b_zones := F_zones.binds (ps := ["asks"]) fun _ _ _ _ _ _ us hl => match us, hl with | [_], _ => rfl
  obtain ⟨d_l_well, F_l_well⟩ := cD.def_ 10 rfl
  have F_l_well : Fun K "_law_well" "_law_well" (top 21) (He.ga K "_law_well") d_l_well := fun_of F_l_well
  have b_l_well := F_l_well.binds (ps := ["script"]) fun _ _ _ _ _ _ us hl => match us, hl with | [_], _ => rfl
  obtain ⟨d_l_draw, F_l_draw⟩ := cD.def_ 11 rfl
  have F_l_draw : Fun K "_law_draw" "_law_draw" (top 22) (He.ga K "_law_draw") d_l_draw := fun_of F_l_draw
  have b_l_draw := F_l_draw.binds (ps := ["well", "many"]) fun _ _ _ _ _ _ us hl => match us, hl with | [_, _], _ => rfl
  obtain ⟨d_l_one, F_l_one⟩ := cD.def_ 12 rfl
  have F_l_one : Fun K "_law_one" "_law_one" (top 23) (He.ga K "_law_one") d_l_one := fun_of F_l_one
  have b_l_one := F_l_one.binds (ps := ["well", "some"]) fun _ _ _ _ _ _ us hl => match us, hl with | [_, _], _ => rfl
  obtain ⟨d_l_rows, F_l_rows⟩ := cD.def_ 13 rfl
  have F_l_rows : Fun K "_law_rows" "_law_rows" (top 24) (He.ga K "_law_rows") d_l_rows := fun_of F_l_rows
  have b_l_rows := F_l_rows.binds (ps := ["well", "many", "span"]) fun _ _ _ _ _ _ us hl => match us, hl with | [_, _, _], _ => rfl
  obtain ⟨d_l_made, F_l_made⟩ := cD.def_ 14 rfl
  have F_l_made : Fun K "_law_made" "_law_made" (top 25) (He.ga K "_law_made") d_l_made := fun_of F_l_made
  have b_l_made := F_l_made.binds (ps := ["row"]) fun _ _ _ _ _ _ us hl => match us, hl with | [_], _ => rfl
  obtain ⟨d_l_parts, F_l_parts⟩ := cD.def_ 15 rfl
  have F_l_parts : Fun K "_law_parts" "_law_parts" (top 26) (He.ga K "_law_parts") d_l_parts := fun_of F_l_parts
  have b_l_parts := F_l_parts.binds (ps := ["rows"]) fun _ _ _ _ _ _ us hl => match us, hl with | [_], _ => rfl
  obtain ⟨d_l_zone, F_l_zone⟩ := cD.def_ 16 rfl
  have F_l_zone : Fun K "_law_zone" "_law_zone" (top 27) (He.ga K "_law_zone") d_l_zone := fun_of F_l_zone
  have b_l_zone := F_l_zone.binds (ps := ["rows", "lot"]) fun _ _ _ _ _ _ us hl => match us, hl with | [_, _], _ => rfl
  obtain ⟨d_l_zones, F_l_zones⟩ := cD.def_ 17 rfl
  have F_l_zones : Fun K "_law_zones" "_law_zones" (top 28) (He.ga K "_law_zones") d_l_zones := fun_of F_l_zones
  have b_l_zones := F_l_zones.binds (ps := ["rows"]) fun _ _ _ _ _ _ us hl => match us, hl with | [_], _ => rfl
  obtain ⟨d_l_heard, F_l_heard⟩ := cD.def_ 18 rfl
  have F_l_heard : Fun K "_law_heard" "_law_heard" (top 29) (He.ga K "_law_heard") d_l_heard := fun_of F_l_heard
  have b_l_heard := F_l_heard.binds (ps := ["work"]) fun _ _ _ _ _ _ us hl => match us, hl with | [_], _ => rfl
  obtain ⟨d_l_history_right, F_l_history_right⟩ := cD.def_ 19 rfl
  have F_l_history_right : Fun K "_law_history_right" "_law_history_right" (top 30) (He.ga K "_law_history_right") d_l_history_right := fun_of F_l_history_right
  have b_l_history_right := F_l_history_right.binds (ps := ["well"]) fun _ _ _ _ _ _ us hl => match us, hl with | [_], _ => rfl
  obtain ⟨d_l_unlike_right, F_l_unlike_right⟩ := cD.def_ 20 rfl
  have F_l_unlike_right : Fun K "_law_unlike_right" "_law_unlike_right" (top 31) (He.ga K "_law_unlike_right") d_l_unlike_right := fun_of F_l_unlike_right
  have b_l_unlike_right := F_l_unlike_right.binds (ps := ["well"]) fun _ _ _ _ _ _ us hl => match us, hl with | [_], _ => rfl
  obtain ⟨d_l_refused_right, F_l_refused_right⟩ := cD.def_ 21 rfl
  have F_l_refused_right : Fun K "_law_refused_right" "_law_refused_right" (top 32) (He.ga K "_law_refused_right") d_l_refused_right := fun_of F_l_refused_right
  have b_l_refused_right := F_l_refused_right.binds (ps := ["well"]) fun _ _ _ _ _ _ us hl => match us, hl with | [_], _ => rfl
  obtain ⟨d_l_no_history_right, F_l_no_history_right⟩ := cD.def_ 22 rfl
  have F_l_no_history_right : Fun K "_law_no_history_right" "_law_no_history_right" (top 33) (He.ga K "_law_no_history_right") d_l_no_history_right := fun_of F_l_no_history_right
  have b_l_no_history_right := F_l_no_history_right.binds (ps := ["well"]) fun _ _ _ _ _ _ us hl => match us, hl with | [_], _ => rfl
  obtain ⟨d_law, F_law⟩ := cD.def_ 23 rfl
  have F_law : Fun K "law" "law" (top 34) (He.ga K "law") d_law := fun_of F_law
  have b_law := F_law.binds (ps := ["script"]) fun _ _ _ _ _ _ us hl => match us, hl with | [_], _ => rfl
  obtain ⟨d_eB, F_eB⟩ := cD.def_ 24 rfl
  have F_eB : Fun K "__init__" "BadAsk.__init__" (mem 8 0) (He.ma K (He.ga K "BadAsk") "__init__") d_eB := fun_of F_eB
  obtain ⟨d_eT, F_eT⟩ := cD.def_ 25 rfl
  have F_eT : Fun K "__init__" "TooMany.__init__" (mem 9 0) (He.ma K (He.ga K "TooMany") "__init__") d_eT := fun_of F_eT
  obtain ⟨d_aI, F_aI⟩ := cD.def_ 26 rfl
  have F_aI : FunD K "__init__" "Ask.__init__" (defArgs sInit) (defBody sInit) (defScope sInit) [.non, .non] [] (He.ma K (He.ga K "Ask") "__init__") d_aI := F_aI
  obtain ⟨d_aA, F_aA⟩ := cD.def_ 27 rfl
  have F_aA : Fun K "is_ahead" "Ask.is_ahead" sAhead (He.ma K (He.ga K "Ask") "is_ahead") d_aA := fun_of F_aA
  obtain ⟨d_aE, F_aE⟩ := cD.def_ 28 rfl
  have F_aE : Fun K "__eq__" "Ask.__eq__" sEq (He.ma K (He.ga K "Ask") "__eq__") d_aE := fun_of F_aE
  have b_aA := F_aA.binds (ps := ["self", "other"]) fun _ _ _ _ _ _ us hl => match us, hl with | [_, _], _ => rfl
  have b_aE := F_aE.binds (ps := ["self", "other"]) fun _ _ _ _ _ _ us hl => match us, hl with | [_, _], _ => rfl
  have TB0 : B0 mg := ⟨z_isinstance, z_int, z_bool, z_str, z_len, z_all, z_list, z_tuple, z_dict⟩
  have T : B1 mg := ⟨TB0, z_range, z_max, z_min, z_sorted, z_repr, z_abs, z_enumerate⟩
  have C : C0 mg _ := ⟨cLets, g_is_integer⟩
  have no7 : ∀ (T : String), T ∈ ["NoneType", "bool", "int", "str", "list", "tuple", "dict"] → PySem.W.kitOne K (.type T) (.ref (He.ga K "Ask")) = some false := fun T m => by
    rcases List.mem_cons.mp m with rfl | m
    · exact kit 6 _ rfl
    rcases List.mem_cons.mp m with rfl | m
    · exact kit 7 _ rfl
    rcases List.mem_cons.mp m with rfl | m
    · exact kit 8 _ rfl
    rcases List.mem_cons.mp m with rfl | m
    · exact kit 9 _ rfl
    rcases List.mem_cons.mp m with rfl | m
    · exact kit 10 _ rfl
    rcases List.mem_cons.mp m with rfl | m
    · exact kit 11 _ rfl
    rcases List.mem_cons.mp m with rfl | m
    · exact kit 12 _ rfl
    cases m
  have A : AskC K mg (He.ga K "Ask") := ⟨g_Ask, clA, na_client, na_word, na_begun, na_ended, na_told, fun H a dx fs e => .ins e clA (He.eqO_ok hA1) (He.eqO_ok hA2) (of_decide_eq_true hA3) (of_decide_eq_true hA4), kit 5 _ rfl, no7⟩
  have NL : NoLT K (He.ga K "Ask") := by
    refine ⟨fun T m => ?_, kit 13 _ rfl, kit 14 _ rfl⟩
    rcases List.mem_cons.mp m with rfl | m
    · exact ⟨kit 15 _ rfl, kit 16 _ rfl⟩
    rcases List.mem_cons.mp m with rfl | m
    · exact ⟨kit 17 _ rfl, kit 18 _ rfl⟩
    rcases List.mem_cons.mp m with rfl | m
    · exact ⟨kit 19 _ rfl, kit 20 _ rfl⟩
    rcases List.mem_cons.mp m with rfl | m
    · exact ⟨kit 21 _ rfl, kit 22 _ rfl⟩
    rcases List.mem_cons.mp m with rfl | m
    · exact ⟨kit 23 _ rfl, kit 24 _ rfl⟩
    cases m
  have EB : HErr K (He.ga K "OpenError") (He.ga K "BadAsk") (He.ga K "TooMany") := ⟨(errI_ok eB g_BadAsk).ex, (errI_ok eT g_TooMany).ex, x_BadAsk, x_TooMany, kit 0 _ rfl, kit 1 _ rfl, kit 2 _ rfl, kit 3 _ rfl, kit 4 _ rfl, (errI_ok eB g_BadAsk).no _ List.mem_cons_self, (errI_ok eT g_TooMany).no _ List.mem_cons_self, (errI_ok eT g_TooMany).no _ (List.mem_cons_of_mem _ List.mem_cons_self)⟩
  have HF : HeardF K mg (He.ga K "OpenError") (He.ga K "BadAsk") (He.ga K "TooMany") := ⟨⟨_, _, g__law_heard, F_l_heard, b_l_heard⟩, g_OpenError, g_BadAsk, g_TooMany, z_ValueError, EB⟩
  refine ⟨d_law, tfs.map (He.cT K), spLaw K (T0s K), fun p hp => ?_, fun p hp => ?_, fun p hp => ?_, fun s u => ?_, fun H a ns hl _ hH hS => ?_, fun base X2 G2 hb hT => ?_⟩
  · obtain ⟨d, md, rfl⟩ := List.mem_map.mp hp
    exact c.empty d md
  · obtain ⟨d, md, rfl⟩ := List.mem_map.mp hp
    exact c.out d md
  · obtain ⟨d, md, rfl⟩ := List.mem_map.mp hp
    exact PySem.W.codeHd_of_K X (c.hd d md)
  · obtain ⟨oc, od, kV, doc, pm, an, cdv, ct, osl, rfl, _⟩ := F_law.ex
    exact .of_eq rfl
  · refine ⟨a, ns, rfl, hS, hl, fun p hp => ?_, fun _ => rfl⟩
    unfold T0s at hp
    rcases List.mem_cons.mp hp with rfl | hp
    · exact hH _ (by simp)
    rcases List.mem_cons.mp hp with rfl | hp
    · exact hH _ (by simp)
    rcases List.mem_cons.mp hp with rfl | hp
    · exact hH _ (by simp)
    cases hp
  · have efa := hfa.symm.trans g_law
    cases efa
    have MB := mk_BadAsk (P := PySem.Challenge.rw_stayopen_k34_zones_of_histories.prog) (w := w) (base := base) eB g_BadAsk F_eB TB0 g_copied F_copied b_copied
    have MT := mk_TooMany (P := PySem.Challenge.rw_stayopen_k34_zones_of_histories.prog) (w := w) (base := base) eT g_TooMany F_eT TB0 g_copied F_copied b_copied
    have GK := ok_check_ask F_check_ask TB0 C g_is_name g_is_count F_is_integer b_is_integer F_is_name b_is_name F_is_count b_is_count MB
    have GI := ok_init F_aI A g_check_ask GK F_check_ask b_check_ask
    have IF := init_f (fK := 0) (dK := d_check_ask) F_aI mAsk GI
    have GN := ok_need F_need_asks A T cMost MB MT
    have GPo := ok_parts_of (P := PySem.Challenge.rw_stayopen_k34_zones_of_histories.prog) (w := w) (base := base) F_parts_of A T g_told_lots F_told_lots b_told_lots
    have GP := ok_parts F_parts T g_need_asks GN F_need_asks b_need_asks g_parts_of GPo F_parts_of b_parts_of
    have GZ := ok_zones F_zones A T g_need_asks GN F_need_asks b_need_asks g_told_lots F_told_lots b_told_lots g_parts_of F_parts_of b_parts_of
    have GA := ok_ahead F_aA A TB0 MB
    have GE := ok_eq (P := PySem.Challenge.rw_stayopen_k34_zones_of_histories.prog) (w := w) (base := base) F_aE A TB0
    have bI : Binds K d_aI psI [] := by
      obtain ⟨ds, v, b⟩ := F_aI.binds1 (ps := psI) 6 2 (by decide) rfl fun T kV doc pm an cdv ct us its h1 h2 => match us, its, h1, h2 with
        | [_, _, _, _, _, _], [_, _], _, _ => ⟨_, rfl, rfl⟩
      cases v
      exact b
    have GM : FnOk PySem.Challenge.rw_stayopen_k34_zones_of_histories.prog w K mg base CX0 10 _ d_l_made ["row"] (spMade (He.ga K "Ask")) := FnOk.x0 (ok_made F_l_made A mAsk GI bI)
    have LF_ : LF PySem.Challenge.rw_stayopen_k34_zones_of_histories.prog w K mg base (He.ga K "Ask") := ⟨
      ⟨_, _, g__law_rows, ok_rows F_l_rows T g__law_draw F_l_draw b_l_draw g__law_one F_l_one b_l_one, F_l_rows.kp, b_l_rows⟩,
      ⟨_, _, g__law_draw, ok_draw F_l_draw T, F_l_draw.kp, b_l_draw⟩,
      ⟨_, _, g__law_one, ok_one F_l_one T g__law_draw F_l_draw b_l_draw, F_l_one.kp, b_l_one⟩,
      ⟨_, _, g__law_made, GM, F_l_made.kp, b_l_made⟩,
      ⟨_, _, g__law_parts, ok_lparts F_l_parts T, F_l_parts.kp, b_l_parts⟩,
      ⟨_, _, g__law_zones, ok_lzones F_l_zones T g__law_parts F_l_parts b_l_parts g__law_zone F_l_zone b_l_zone, F_l_zones.kp, b_l_zones⟩,
      ⟨_, _, g_parts, parts_x GP, F_parts.kp, b_parts, kb_one F_parts (fun _ _ _ _ _ _ _ => rfl) (fun _ _ _ _ _ _ _ => rfl)⟩,
      ⟨_, _, g_zones, zones_x GZ, F_zones.kp, b_zones, kb_one F_zones (fun _ _ _ _ _ _ _ => rfl) (fun _ _ _ _ _ _ _ => rfl)⟩⟩
    have AF : AskF PySem.Challenge.rw_stayopen_k34_zones_of_histories.prog w K mg base (He.ga K "Ask") := ⟨⟨_, _, me_is_ahead, ahead_x GA, b_aA, kb_self F_aA (fun _ _ _ _ _ _ _ _ => rfl) (fun _ _ _ _ _ _ _ _ => rfl)⟩, ⟨_, _, GE, ⟨me___eq__.at_, me___eq__.fn, He.eqO_ok hA5, of_decide_eq_true hA4, b_aE⟩⟩, hF1⟩
    have AH : AheadF PySem.Challenge.rw_stayopen_k34_zones_of_histories.prog w K mg base (He.ga K "Ask") (He.ga K "BadAsk") := ⟨⟨_, _, me_is_ahead, GA, b_aA⟩, fun T m => List.all_eq_true.mp hF2 T m⟩
    have PZ : PZF PySem.Challenge.rw_stayopen_k34_zones_of_histories.prog w K mg base (He.ga K "Ask") (He.ga K "BadAsk") (He.ga K "TooMany") := ⟨⟨_, _, g_parts, GP, F_parts.kp, b_parts⟩, ⟨_, _, g_zones, GZ, F_zones.kp, b_zones⟩⟩
    have LU : LamAt (T0s K) base mg (He.codeOf K ("_law_unlike_right", none)) (tU K) qU := by
      refine ⟨hT (He.cT K ("_law_unlike_right", none)) (by simp), by unfold T0s; simp, fun p hp e => ?_⟩
      unfold T0s at hp
      rcases List.mem_cons.mp hp with rfl | hp
      · rfl
      rcases List.mem_cons.mp hp with rfl | hp
      · exact (nUR e.symm).elim
      rcases List.mem_cons.mp hp with rfl | hp
      · exact (nUN e.symm).elim
      cases hp
    have LR : LamAt (T0s K) base mg (He.codeOf K ("_law_refused_right", none)) (tR K) qR := by
      refine ⟨hT (He.cT K ("_law_refused_right", none)) (by simp), by unfold T0s; simp, fun p hp e => ?_⟩
      unfold T0s at hp
      rcases List.mem_cons.mp hp with rfl | hp
      · exact (nUR e).elim
      rcases List.mem_cons.mp hp with rfl | hp
      · rfl
      rcases List.mem_cons.mp hp with rfl | hp
      · exact (nRN e.symm).elim
      cases hp
    have LN : LamAt (T0s K) base mg (He.codeOf K ("_law_no_history_right", none)) (tN K) qN := by
      refine ⟨hT (He.cT K ("_law_no_history_right", none)) (by simp), by unfold T0s; simp, fun p hp e => ?_⟩
      unfold T0s at hp
      rcases List.mem_cons.mp hp with rfl | hp
      · exact (nUN e).elim
      rcases List.mem_cons.mp hp with rfl | hp
      · exact (nRN e).elim
      rcases List.mem_cons.mp hp with rfl | hp
      · rfl
      cases hp
    have GW : FnOk PySem.Challenge.rw_stayopen_k34_zones_of_histories.prog w K mg base CX0 1 _ d_l_well ["script"] (spPen K) := ok_well F_l_well T
    exact ok_law F_law T A LF_ IF g__law_well GW F_l_well.kp b_l_well
      ⟨_, _, g__law_history_right, ok_hr hb F_l_history_right T A AF LF_, F_l_history_right.kp, b_l_history_right⟩
      ⟨_, _, g__law_refused_right, ok_rr hb F_l_refused_right (code_eq (p := ("_law_refused_right", none)) F_l_refused_right) LR T A LF_ HF IF, F_l_refused_right.kp, b_l_refused_right⟩
      ⟨_, _, g__law_unlike_right, ok_ur hb F_l_unlike_right (code_eq (p := ("_law_unlike_right", none)) F_l_unlike_right) LU T A AF LF_ HF AH IF, F_l_unlike_right.kp, b_l_unlike_right⟩
      ⟨_, _, g__law_no_history_right, ok_nh hb F_l_no_history_right (code_eq (p := ("_law_no_history_right", none)) F_l_no_history_right) LN T A NL LF_ HF IF PZ, F_l_no_history_right.kp, b_l_no_history_right⟩
end K34
end

section
open PySem PySem.W PySem.Calls PyProof.Rows
set_option Elab.async false
set_option linter.all false
set_option maxRecDepth 100000
set_option maxHeartbeats 0
theorem PySem.Challenge.cw_stayopen_k34_zones_of_histories_holds : PySem.Challenge.rw_stayopen_k34_zones_of_histories.Holds := by
  w_on; o_law
  refine HandSHeadRun.head_any (r := OpenLaw.row PySem.Challenge.rw_stayopen_k34_zones_of_histories) (q := view (OpenLaw.row PySem.Challenge.rw_stayopen_k34_zones_of_histories).prog [34]) (H := K34.hk) (ob := K34.ob) (M := 20000) (loose := K34.nms) (d := HandSHeadRun.topDef (OpenLaw.row PySem.Challenge.rw_stayopen_k34_zones_of_histories).prog 34) (kwd := []) K34.ob_eq
    (by kernel_rfl) (fun s => by kernel_rfl) K34.run (by kernel_rfl) (by kernel_rfl) (by kernel_rfl) (by rfl) (by first | assumption | decide +kernel) (by decide +kernel) ⟨rfl, rfl, rfl, rfl, rfl, by decide +kernel⟩ ?hw ?hc
  case hw => w_witness2
  case hc =>
    refine KZ.walkGE (l := PySem.Challenge.rw_stayopen_k34_zones_of_histories) (n := 63) (k := 14) (x := "script") rfl (by decide) (by kernel_rfl) ⟨rfl, by decide, by decide⟩ (by decide +kernel) ?F
    intro w mg fa h Y G hmg0
    obtain ⟨K, KX, c⟩ := Y
    have hmg : mg ("law" : PySem.Str) = some (.ref fa) := by
      have e : (HandSHeadRun.topDef (OpenLaw.row PySem.Challenge.rw_stayopen_k34_zones_of_histories).prog 34).name = ("law" : PySem.Str) := by kernel_rfl
      rw [← e]
      exact hmg0
    exact ⟨K, KX, K34.joined KX G hmg c⟩
end
