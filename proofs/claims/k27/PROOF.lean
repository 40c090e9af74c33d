import PyProof.Rows.All
import Wide.All
import OpenK.AllK
import Wide.FinOn
import HandS.Base
import HandS.Call
import HandS.List
import HandS.Exc
import HandS.Lambda
import HandS.Words
import HandS.ExcInit
import HandS.ExcOwn
import KE.KExcIs
import HandS.IsInst
import HandS.EndTab
import HandS.ExcValue
import HandS.Style
import KE.KStateDown
import HandS.Head0
import HandS.Head1
import HandS.Head2
import HandS.HeadEnd
import HandS.HeadHook4
import HandS.ForMost
import HandS.Walk
import HandS.DictComp
import HandS.NoneIn
import HandS.Iter
import HandS.OwnEq
import PyProof.InstEq
import PyProof.InstNe
import HandS.WordsExc
import HandS.Deep
import PyProof.P3In
import HandS.Wide
import HandS.SlotsOwn
import OpenK.KOps
import PyProof.Conv_bool
import OpenK.KMeth
import HandS.IterVal
import KE.KOwnIter
import PyProof.NeKinds
import KE.KEqNest
import PyProof.EqLayable
import PyProof.P3Eq
import HandS.Strs
import HandS.TupAny
import HandS.TupLe
import HandS.Text
import HandS.Defaults
import HandS.MakeKw
import HandS.WordsDict
import HandS.SortInts
import HandS.Conv
import HandS.More
import HandS.MakeKwOnly
import PySem.Challenge.RW_stayopen_k27_stamps_letters_and_hosts
section
set_option Elab.async false
set_option linter.all false
set_option maxRecDepth 100000
/-! the text's statements, by number -/
namespace K27
open PySem
def top (i : Nat) : Stmt := PySem.Challenge.pw_stayopen_k27_stamps_letters_and_hosts.main.body.getD i (.Pass ⟨0, 0, 0, 0⟩)
def mem (i j : Nat) : Stmt := match top i with
  | .ClassDef _ _ _ b _ _ _ _ _ _ _ => b.getD j (.Pass ⟨0, 0, 0, 0⟩)
  | s => s
end K27
end

section
set_option Elab.async false
set_option linter.all false
set_option maxRecDepth 100000
set_option maxHeartbeats 4000000
/-! rules of my own over the hand layer: data with dicts, repr of data -/
namespace KZ
open PySem PySem.Spec PyProof.Rows L2

/-- the datum of a key -/
def keyD : Key → PyData
  | .inl i => .int i
  | .inr x => .str x
mutual
/-- v is the datum d, dicts too -/
inductive Dv (K : PySem.W.Frag) (H : Hp) : V → PyData → Prop
  | non : Dv K H .non .none
  | bl (b : Bool) : Dv K H (.bl b) (.bool b)
  | int (i : Int) : Dv K H (.int i) (.int i)
  | str (x : Str) : Dv K H (.str x) (.str x)
  | lst {a : Addr} {xs : List V} {ds : List PyData} : SqL K H a xs → Dvs K H xs ds → Dv K H (.ref a) (.list ds)
  | tup {a : Addr} {xs : List V} {ds : List PyData} : SqT K H a xs → Dvs K H xs ds → Dv K H (.ref a) (.tuple ds)
  | dic {a : Addr} {kvs : List (Key × V)} {ps : List (PyData × PyData)} : Rd H a (.dK kvs) → Dks K H kvs ps → Dv K H (.ref a) (.dict ps)
inductive Dvs (K : PySem.W.Frag) (H : Hp) : List V → List PyData → Prop
  | nil : Dvs K H [] []
  | cons {v : V} {vs : List V} {d : PyData} {ds : List PyData} : Dv K H v d → Dvs K H vs ds → Dvs K H (v :: vs) (d :: ds)
inductive Dks (K : PySem.W.Frag) (H : Hp) : List (Key × V) → List (PyData × PyData) → Prop
  | nil : Dks K H [] []
  | cons {k : Key} {v : V} {kvs : List (Key × V)} {d : PyData} {ps : List (PyData × PyData)} : Dv K H v d → Dks K H kvs ps → Dks K H ((k, v) :: kvs) ((keyD k, d) :: ps)
end

section
variable {X : Cx} {pins : List (Addr × Obj)} {σ : L2.St} {H : Hp} {s : Shared}
def ModsD (h : Heap) : Prop := ∃ o es ep, h.get? sysModules = some o ∧ o.data = .dict es ep
theorem keyD_reads {w : World} {P : Program} {h : Heap} (k : Key) (key : Value) (e : (mixKind P w).is k key = true) : Reads h key (keyD k) [] := by
  rcases keyIs_shape (k := k) (v := key) e with ⟨i, t, rfl, rfl⟩ | ⟨x, t, rfl, rfl⟩
  · exact Reads.int i t
  · exact Reads.str x t
mutual
theorem Dv.reads (I : Inv X pins σ H s) (hm : ModsD s.heap) : ∀ (d : PyData) (v : V) (u : Value), Dv X.K H v d → RelV v u → ∃ as, Reads s.heap u d as ∧ sysModules ∉ as
  | .none, _, _, h, r => by
    cases h; cases r
    exact ⟨_, Reads.none, by simp⟩
  | .bool b, _, _, h, r => by
    cases h; cases r
    exact ⟨_, Reads.bool b, by simp⟩
  | .int i, _, _, h, r => by
    cases h
    obtain ⟨t, rfl⟩ := r
    exact ⟨_, Reads.int i t, by simp⟩
  | .str x, _, _, h, r => by
    cases h
    obtain ⟨t, rfl⟩ := r
    exact ⟨_, Reads.str x t, by simp⟩
  | .list ds, _, _, h, r => by
    cases h with
    | lst hs ha =>
      cases r
      obtain ⟨its, rv, ⟨o, n, ho, hc, _, hd⟩, _⟩ := I.list hs
      obtain ⟨as, hr, na⟩ := Dv.readsAll I hm ds _ its ha rv
      refine ⟨_, Reads.list ho hc hd hr, fun hmem => ?_⟩
      rcases List.mem_cons.mp hmem with z | z
      · obtain ⟨om, es, ep, hg, hq⟩ := hm
        rw [z, ho] at hg
        cases hg
        rw [hd] at hq
        cases hq
      · exact na z
  | .tuple ds, _, _, h, r => by
    cases h with
    | tup hs ha =>
      cases r
      obtain ⟨its, rv, ⟨o, ho, hc, n, hd⟩, _⟩ := I.tuple hs
      obtain ⟨as, hr, na⟩ := Dv.readsAll I hm ds _ its ha rv
      exact ⟨_, Reads.tuple ho hc hd hr, na⟩
  | .dict ps, _, _, h, r => by
    cases h with
    | dic hs ha =>
      cases r
      obtain ⟨_, hne, vs, kv, hD⟩ := hs.ok I.hok
      obtain ⟨as, hr, na⟩ := Dv.readsKv I hm ps _ vs ha kv
      refine ⟨_, PyProof.V.reads_dictOf (enc := keyD) (fun k key e => keyD_reads k key e) hD hr, fun hmem => ?_⟩
      rcases List.mem_cons.mp hmem with z | z
      · rw [← z] at hne
        simp at hne
      · exact na z
theorem Dv.readsAll (I : Inv X pins σ H s) (hm : ModsD s.heap) : ∀ (ds : List PyData) (vs : List V) (us : List Value), Dvs X.K H vs ds → Vals vs us → ∃ as, ReadsAll s.heap us ds as ∧ sysModules ∉ as
  | [], _, _, h, r => by
    cases h; cases r
    exact ⟨_, ReadsAll.nil, by simp⟩
  | d :: ds, _, _, h, r => by
    cases h with
    | cons h1 h2 =>
      cases r with
      | cons r1 r2 =>
        obtain ⟨as, q1, n1⟩ := Dv.reads I hm d _ _ h1 r1
        obtain ⟨bs, q2, n2⟩ := Dv.readsAll I hm ds _ _ h2 r2
        exact ⟨_, ReadsAll.cons q1 q2, fun z => (List.mem_append.mp z).elim n1 n2⟩
theorem Dv.readsKv (I : Inv X pins σ H s) (hm : ModsD s.heap) : ∀ (ps : List (PyData × PyData)) (kvs : List (Key × V)) (us : List (Key × Value)), Dks X.K H kvs ps → KV kvs us → ∃ as, PyProof.V.PairsRead s.heap keyD us ps as ∧ sysModules ∉ as
  | [], _, _, h, r => by
    cases h; cases r
    exact ⟨_, PyProof.V.PairsRead.nil, by simp⟩
  | _ :: ps, _, _, h, r => by
    cases h with
    | cons h1 h2 =>
      cases r with
      | @cons _ q _ _ r1 r2 =>
        obtain ⟨qk, qv⟩ := q
        obtain ⟨e1, r1⟩ := r1
        obtain rfl : _ = qk := e1
        obtain ⟨as, q1, n1⟩ := Dv.reads I hm _ _ _ h1 r1
        obtain ⟨bs, q2, n2⟩ := Dv.readsKv I hm ps _ _ h2 r2
        exact ⟨_, PyProof.V.PairsRead.cons q1 q2, fun z => (List.mem_append.mp z).elim n1 n2⟩
end

/-- what base says of the modules' dict, for every state -/
theorem modsD_of (hb : ModsD X.base) (I : Inv X pins σ H s) : ModsD s.heap :=
  let ⟨o, es, ep, h1, h2⟩ := hb
  ⟨o, es, ep, I.bk _ _ h1, h2⟩

/-- repr(x) of data, no repr being under way -/
def rRepr (K : PySem.W.Frag) : List V → Hp → VK → Prop := fun xs H Q => ∃ (v : V) (d : PyData), xs = [v] ∧ Dv K H v d ∧ d.showable = true ∧ d.shown.length ≤ 10000 ∧ d.depth ≤ 40 ∧ Q (.str d.shown) H
theorem call_reprD (hg : X.A.guards = some []) (hu : X.A.units + 64 < cLine) (hb : ModsD X.base) : CallR X (.builtin "repr") (rRepr X.K) := by
  intro pins s σ H xs us Q I r h
  obtain ⟨v, d, rfl, hd, hs, hl, hdp, q⟩ := h
  obtain ⟨u, rfl, r1⟩ := vals1 r
  obtain ⟨as, hr, na⟩ := Dv.reads I (modsD_of hb I) d v u hd r1
  have hz : d.shown.length ≤ sizeLine := Nat.le_trans hl (by decide)
  cases hd with
  | non =>
    cases r1
    exact PySem.P.repr_of_none ⟨.str _, H, I.tok _, ⟨_, rfl⟩, q⟩
  | bl b =>
    cases r1
    refine PySem.P.repr_of_bool ⟨.str _, H, I.tok _, ⟨_, rfl⟩, ?_⟩
    cases b <;> exact q
  | int i =>
    obtain ⟨t, rfl⟩ := r1
    exact PySem.P.repr_of_int (by simpa [PyData.showable] using hs) ⟨.str _, H, I.tok _, ⟨_, rfl⟩, q⟩
  | str x =>
    obtain ⟨t, rfl⟩ := r1
    exact PySem.P.repr_of_str ⟨.str _, H, I.tok _, ⟨_, rfl⟩, q⟩ (by simpa only [PyData.shown] using hz)
  | lst h1 h2 =>
    cases r1
    exact repr_of_reads' hr hs (fun _ => na) hg (by omega) (fun _ _ e => e) (fun h' u tk hk => ⟨.str _, H, I.kept hk, ⟨_, rfl⟩, q⟩) hz
  | tup h1 h2 =>
    cases r1
    exact repr_of_reads' hr hs (fun _ => na) hg (by omega) (fun _ _ e => e) (fun h' u tk hk => ⟨.str _, H, I.kept hk, ⟨_, rfl⟩, q⟩) hz
  | dic h1 h2 =>
    cases r1
    exact repr_of_reads' hr hs (fun _ => na) hg (by omega) (fun _ _ e => e) (fun h' u tk hk => ⟨.str _, H, I.kept hk, ⟨_, rfl⟩, q⟩) hz
end
end KZ
end

section
set_option Elab.async false
set_option linter.all false
set_option maxRecDepth 100000
set_option maxHeartbeats 4000000
/-! promises of defs that hold where no repr is under way -/
namespace KZ
open PySem PySem.Spec PyProof.Rows L2

structure FnG (P : Program) (w : World) (K : PySem.W.Frag) (mg : Str → Option Value) (base : Heap) (cx : CXT) (k : Nat) (f : Addr) (fd : FuncData) (ps : List Str) (sp : Sp) : Prop where
  len : ∀ vs H Q E, sp vs H Q E → vs.length = ps.length
  runG : ∀ (A : Around) (out : List Env) (s : Shared) (H : Hp) (ar : Args) (us : List Value) (vs : List V) (Q : VK) (E : XK), A.guards = some [] → Room k A → Env0 P w K mg base A out s H → BindsTo s fd ar (ps.zip us) → Vals vs us → sp vs H Q E →
    codeAny (model P w) A (.call (.ref f) ar) (CR cx out P w H s Q E) s
theorem FnG.ofOk {P : Program} {w : World} {K : PySem.W.Frag} {mg : Str → Option Value} {base : Heap} {cx : CXT} {k : Nat} {f : Addr} {fd : FuncData} {ps : List Str} {sp : Sp} (F : FnOk P w K mg base cx k f fd ps sp) : FnG P w K mg base cx k f fd ps sp :=
  ⟨F.len, fun A out s H ar us vs Q E _ hr he hb hv hs => F.run A out s H ar us vs Q E hr he hb hv hs⟩
theorem FnG.mono {P : Program} {w : World} {K : PySem.W.Frag} {mg : Str → Option Value} {base : Heap} {cx : CXT} {j k : Nat} {f : Addr} {fd : FuncData} {ps : List Str} {sp : Sp} (F : FnG P w K mg base cx j f fd ps sp) (h : j ≤ k) : FnG P w K mg base cx k f fd ps sp :=
  ⟨F.len, fun A out s H ar us vs Q E hg hr he hb hv hs => F.runG A out s H ar us vs Q E hg (hr.mono h) he hb hv hs⟩

section
variable {X : Cx} {cx : CXT} {k : Nat} {f : Addr} {fd : FuncData} {ps : List Str} {sp : Sp} {dvs : List V} {ds : List Value} {E : XK} {x : Str} {p pos : Pos} {e : Expr} {es : List Expr} {t : TA}
theorem run_fnG {pins : List (Addr × Obj)} {σ : L2.St} {H : Hp} {s : Shared} {Q : VK} {us : List Value} {vs : List V} (F : FnG X.prog X.w X.K X.mg X.base cx k f fd ps sp) (hgd : X.A.guards = some []) (hr : Room k X.A) (hb : Binds X.K fd ps ds)
    (hd : Vals dvs ds) (hx : Passes cx X E) (I : Inv X pins σ H s) (r : Vals vs us) (h : sp (vs ++ dvs) H Q E) : wpAny (model X.prog X.w) X.A (call (.ref f) us) (EP X pins σ Q) X.xe s := by
  have rr : Vals (vs ++ dvs) (us ++ ds) := r.append hd
  have hl : (us ++ ds).length = ps.length := by rw [← rr.length]; exact F.len _ _ _ _ h
  refine wpAny_call (codeAny_mono (F.runG X.A X.stack s H ⟨us, []⟩ (us ++ ds) (vs ++ dvs) Q E hgd hr I.env0 (hb s us I.kIn hl) rr h) fun r s' hq => ?_)
  rcases r with er | fl
  · exact hx pins σ H s er s' I hq
  · cases fl with
    | ret u => exact I.after hq
    | _ => exact False.elim hq
theorem pe_callG (F : FnG X.prog X.w X.K X.mg X.base cx k f fd ps sp) (hgd : X.A.guards = some []) (hr : Room k X.A) (hg : Gl X x) (hm : X.mg x = some (.ref f)) (hk : PySem.W.keepIn X.K (.ref f) = true) (hb : Binds X.K fd ps ds) (hd : Vals dvs ds) (hx : Passes cx X E)
    (ha : PA X (e :: es) t) (hdb : (x == ("__debug__" : Str)) = false := by decide) (he : starEach (e :: es) X.env = (false, eval e X.env) :: starEach es X.env := by rfl) (hpl : (backTo pos (starEach es X.env)).any (·.1) = false := by rfl) :
    PE X (.Call (.Name x p) (e :: es) [] pos) (tCall sp dvs E t) :=
  ⟨fun pins s σ H Q I h => wpAny_Call_Name_kw (ld_glob I hg hm (PySem.W.callWith_K (h₀ := X.base) I.ok.mod.kin hk (thn (ha.run pos pins s σ H _ I h) fun us s1 ⟨vs, H1, I1, r, q⟩ =>
    ⟨I1.kIn, run_fnG F hgd hr hb hd hx I1 r q⟩) he hpl) hdb)⟩
end

/-- a def, its body walked where no repr is under way -/
theorem okG {P : Program} {w : World} {K : PySem.W.Frag} {mg : Str → Option Value} {base : Heap} {x qual : Str} {st : Stmt} {f : Addr} {fd : FuncData} {N ps : List Str} {k : Nat} {sp : Sp} (F : Fun K x qual st f fd) (S : FnScope N ps (defScope st))
    (len : ∀ vs H Q E, sp vs H Q E → vs.length = ps.length)
    (hbody : ∀ (cdv : Value) (A : Around) (out : List Env) (s : Shared) (H : Hp) (vs : List V) (Q : VK) (E : XK), A.guards = some [] → Room k (A.deeper (envOfC qual (defScope st) s.heap.objs.size f cdv)) → sp vs H Q E →
      ∃ t, PSs (cxOf CX0 P w K mg base N qual (defScope st) f cdv A out s H E).nox (defBody st) t ∧ t { nx := fun _ H' => Q .non H', rt := Q } (start N vs) H) : FnG P w K mg base CX0 (k + 1) f fd ps sp := by
  obtain ⟨oc, od, kV, doc, pm, an, cdv, ct, osl, rfl, lk, hcd⟩ := F.ex
  refine ⟨len, fun A out s H ar us vs Q E hgd hr e0 hb r hsp => LamX.run_ofS (N := N) lk hcd S hr e0 hb r (len _ _ _ _ hsp) fun hr' => ?_⟩
  obtain ⟨t, ht, q⟩ := hbody cdv A out s H vs Q E hgd hr' hsp
  exact ⟨t, ht.nox, q⟩
end KZ
end

section
set_option Elab.async false
set_option linter.all false
set_option maxRecDepth 100000
set_option maxHeartbeats 4000000
/-! errors of the program's own as values: made, read, kept behind a try -/
namespace KZ
open PySem PySem.Spec PyProof.Rows L2

/-- at a: an exception of the class at C, its dict d -/
def EXO (C a : Addr) (d : Option Addr) : HO := .ext fun h => ∃ (oe : Obj) (vs : Array Value), h.get? a = some oe ∧ Zc (.ref C) d oe ∧ oe.data = .fields vs
theorem exo_okE {P : Program} {w : World} {H : Hp} {h : Heap} {C a : Addr} {d : Option Addr} {oe : Obj} {vs : Array Value} (e : h.get? a = some oe) (z : Zc (.ref C) d oe) (f : oe.data = .fields vs) : ObjOk P w H h a (EXO C a d) :=
  ⟨⟨oe, vs, e, z, f⟩, ⟨oe, e⟩, fun _ _ ⟨o, v, q, r⟩ k => ⟨o, v, k o q, r⟩⟩
theorem EXO.get {P : Program} {w : World} {H : Hp} {h : Heap} {C a : Addr} {d : Option Addr} (ok : HOk P w H h) (e : H a = some (EXO C a d)) : ∃ (oe : Obj) (vs : Array Value), h.get? a = some oe ∧ Zc (.ref C) d oe ∧ oe.data = .fields vs := by
  have x : ObjOk P w H h a (.ext fun h => ∃ (oe : Obj) (vs : Array Value), h.get? a = some oe ∧ Zc (.ref C) d oe ∧ oe.data = .fields vs) := ok a _ e
  exact x.1
/-- at dd: the dict of an exception -/
def XD (H : Hp) (dd : Addr) (fs : List (Str × V)) : Prop := H dd = some (exd dd fs) ∨ H dd = some (.xd fs)
theorem XD.get {P : Program} {w : World} {H : Hp} {h : Heap} {dd : Addr} {fs : List (Str × V)} (ok : HOk P w H h) (e : XD H dd fs) : ∃ mA, h.Ns1 dd mA ∧ ∀ f, RelO (fs.lookup f) (mA f) := by
  rcases e with e | e
  · exact exd_at ok e
  · exact ok dd _ e
/-- what the written part says of such a class -/
structure ExcT (K : PySem.W.Frag) (C : Addr) : Prop where
  ga : PySem.W.findIn K (.ref C) "__getattribute__" = some (some (.builtin "BaseException.__getattribute__"))
  gg : PySem.W.findIn K (.ref C) "__getattr__" = some none
  be : PySem.W.subIn K (.ref C) (.type "BaseException") = some true
  hd : PySem.W.hasDictIn K C = true
  kl : PySem.W.findIn K (.ref C) "__class__" = some (some (.builtin "object.__class__"))
  ge : PySem.W.specialIn K (.builtin "object.__class__") "__get__" = some (some (.builtin "getset_descriptor.__get__"))
  tk : PySem.W.takesIn K (.builtin "object.__class__") = some true
  mo : PySem.W.mroIn K C (.type "object") = some true
section
variable {X : Cx} {pins : List (Addr × Obj)} {σ : L2.St} {H : Hp} {s : Shared}
theorem inst_of {C a dd : Addr} {fs : List (Str × V)} (I : Inv X pins σ H s) (e : H a = some (EXO C a (some dd))) (ed : XD H dd fs) :
    ∃ (oe od : Obj) (mA : Str → Option Value), PySem.W.InstAt s.heap a oe C (some od) ∧ (∀ n, PySem.W.lookIn n od = some (mA n)) ∧ ∀ f, RelO (fs.lookup f) (mA f) := by
  obtain ⟨oe, vs, ha, hz, hd⟩ := EXO.get I.hok e
  obtain ⟨mA, hns, rel⟩ := ed.get I.hok
  obtain ⟨od, ho, hl⟩ := lookIn_ns hns
  exact ⟨oe, od, mA, ⟨ha, hz.1, by unfold PySem.W.notCls; rw [hd] <;> rfl, by rw [hz.2]; exact ho⟩, hl, rel⟩
/-- e.n, e an error of the program's own -/
def tEf (K : PySem.W.Frag) (n : Str) (te : TE) : TE := fun σ H Q => te σ H fun x H1 => ∃ (a C dd : Addr) (fs : List (Str × V)) (v : V), x = .ref a ∧ ExcT K C ∧ PySem.W.findIn K (.ref C) n = some none ∧ H1 a = some (EXO C a (some dd)) ∧ XD H1 dd fs ∧ fs.lookup n = some v ∧ Q v H1
theorem pe_ef {e : Expr} {te : TE} {pos : Pos} {n : Str} (he : PE X e te) (hb : attributeBase e n X.env (eval e X.env) = eval e X.env := by rfl) : PE X (.Attribute e n pos) (tEf X.K n te) := by
  refine ⟨fun pins s σ H Q I h => attr_of hb (thn (he.run pins s σ H _ I h) fun u s1 hh => ?_)⟩
  obtain ⟨x, H1, I1, rx, a, C, dd, fs, v, ex, T, hno, ea, ed, l, q⟩ := hh
  subst ex
  obtain rfl : u = Value.ref a := rx
  obtain ⟨oe, od, mA, J, hl, hr⟩ := inst_of I1 ea ed
  obtain ⟨z, hz, rz⟩ := RelO.some_of (v := v) (o := mA n) (by rw [← l]; exact hr n)
  exact HandSPX.exc_get I1.kIn J T.ga T.gg T.be (PySem.W.findObj_own T.hd hno rfl (by rw [hl, hz])) (handed_of rz) ⟨v, H1, I1.tok _, rz, q⟩

/-- C(e, ..) as a value: a new error -/
def tOexV (C : Addr) (sp : Sp) (dvs : List V) (ta : TA) : TE := fun σ H Q => ta σ H fun vs H1 => vs.length ≤ 1000 ∧ ∀ a, H1 a = none → sp (.ref a :: (vs ++ dvs)) (upd H1 a (exo a C none))
  (fun v H2 => v = .non ∧ ∃ d, H2 a = some (exo a C (some d)) ∧ Q (.ref a) (upd H2 a (EXO C a (some d)))) (fun _ _ _ => False)
theorem retrack {C a d : Addr} (I : Inv X pins σ H s) (e : H a = some (exo a C (some d))) : Inv X pins σ (upd H a (EXO C a (some d))) s := by
  obtain ⟨t1, ha⟩ := exo_at I.hok e
  have J := I.write (t' := s.toks) (h' := s.heap) (x := a) (e := a) (o := EXO C a (some d)) (by rw [e]; exact True.intro) (.inl rfl) (fun _ _ _ q => q) ⟨_, ha⟩ (exo_okE ha ⟨rfl, rfl⟩ rfl)
  exact J
theorem pe_oex {cx : CXT} {x : Str} {C fI : Addr} {k : Nat} {fd : FuncData} {ps : List Str} {sp : Sp} {ds : List Value} {dvs : List V} {e : Expr} {es : List Expr} {ta : TA} {p pos : Pos} (T : OexC X.K C) (iC : PySem.W.findIn X.K (.ref C) "__init__" = some (some (.ref fI)))
    (tI : PySem.W.typeIn X.K (.ref fI) = some (.type "function")) (F1 : FnOk X.prog X.w X.K X.mg X.base cx k fI fd ps sp) (hr : Room (k + 1) X.A) (hb : Binds X.K fd ps ds) (hd : Vals dvs ds) (hx : Passes cx X (fun _ _ _ => False)) (hg : Gl X x)
    (hm : X.mg x = some (.ref C)) (ha : PA X (e :: es) ta) (hdb : (x == ("__debug__" : Str)) = false := by decide) (he : starEach (e :: es) X.env = (false, eval e X.env) :: starEach es X.env := by rfl) (hpl : (backTo pos (starEach es X.env)).any (·.1) = false := by rfl) :
    PE X (.Call (.Name x p) (e :: es) [] pos) (tOexV C sp dvs ta) := by
  refine ⟨fun pins s σ H Q I h => ?_⟩
  obtain ⟨nm, q, N, bs, bm, sn, sub, ab, col, dd, k0, k1, k2, k3, k5, hC, hbm⟩ := T.cls
  refine wpAny_Call_Name_kw (ld_glob I hg hm ?_ hdb)
  refine PySem.W.callWith_K (h₀ := X.base) I.ok.mod.kin T.kC (thn (ha.run pos pins s σ H _ I h) fun us s1 ⟨vs, H1, I1, r1, hz, q1⟩ => ⟨I1.kIn, ?_⟩) he hpl
  show wpAny _ _ (call (.ref C) us) _ _ _
  obtain ⟨hp, g, dr, tk, os⟩ := s1
  obtain ⟨a, hA⟩ : ∃ a, a = hp.objs.size + 1 := ⟨_, rfl⟩
  have hsz : hp.objs.size ≤ a := by rw [hA]; exact Nat.le_succ _
  have hq := q1 a (I1.hok.fresh hsz)
  have kk : ∀ b o, hp.get? b = some o → ((hp.push (PySem.W.kdv_tup us)).push (PySem.HandSPX.excO C hp.objs.size)).get? b = some o := fun b o e => Heap.get?_push_of_some _ (Heap.get?_push_of_some _ e)
  have hget : ((hp.push (PySem.W.kdv_tup us)).push (PySem.HandSPX.excO C hp.objs.size)).get? a = some (PySem.HandSPX.excO C hp.objs.size) := by rw [hA]; heap_get
  have I2 : Inv X pins σ (upd H1 a (exo a C none)) ⟨(hp.push (PySem.W.kdv_tup us)).push (PySem.HandSPX.excO C hp.objs.size), g, dr, tk, os⟩ :=
    I1.laid (t' := tk) (a := a) (o := exo a C none) (h' := (hp.push (PySem.W.kdv_tup us)).push (PySem.HandSPX.excO C hp.objs.size)) kk hsz (exo_ok hget)
  have r2 : Vals (V.ref a :: (vs ++ dvs)) (Value.ref a :: (us ++ ds)) := .cons rfl (r1.append hd)
  have hl : (Value.ref a :: us ++ ds).length = ps.length := by
    have e := r2.length
    rw [F1.len _ _ _ _ hq] at e
    exact e.symm
  have hus : us.length ≤ sizeLine := by
    rw [← Paired.length r1, sizeLine_eq]
    omega
  have core := F1.run _ X.stack _ _ ⟨Value.ref a :: us, []⟩ (Value.ref a :: (us ++ ds)) _ _ (fun _ _ _ => False) (hr.make C us []) (I2.env0.make C us []) (hb _ (Value.ref a :: us) I2.kIn hl) r2 hq
  rw [hA] at core
  refine wpAny_call (PySem.HandSPX.call_own F.excBase_ValueError (fun Y => PySem.HandSPX.refsVE_contains Y bm hbm) (I1.kIn _ _ hC) (PySem.W.looks_findIn I1.kIn iC) (fun self => PySem.W.bind_fn I1.kIn self tI) hus (codeAny_mono core fun r s' hq' => ?_))
  rw [← hA] at hq' ⊢
  cases r with
  | error er => exact hx pins σ _ _ er s' I2 hq'
  | ok fl =>
    cases fl with
    | ret u =>
      obtain ⟨v, H2, os2, bare2, un2, hok2, rv, ev, d, ea, q2⟩ := hq'
      subst ev
      have J : Inv X pins σ H2 s' := I2.call' (ch := []) os2 un2 hok2 bare2 (fun _ z => nomatch z)
      exact ⟨rv, .ref a, _, retrack J ea, rfl, q2⟩
    | next => exact False.elim hq'
    | brk => exact False.elim hq'
    | cont => exact False.elim hq'
end
end KZ
end

section
set_option Elab.async false
set_option linter.all false
set_option maxRecDepth 100000
set_option maxHeartbeats 4000000
/-! a caught error that is kept: try: .. except x as n: m = n -/
namespace KZ
open PySem PySem.Spec PyProof.Rows L2
section
variable {X : Cx} {pins : List (Addr × Obj)} {σ : L2.St} {H : Hp} {s : Shared}
/-- an object of ours that isn't tracked yet, an error, is tracked from here on -/
theorem track {a C : Addr} {d : Option Addr} {oe : Obj} {vs : Array Value} (I : Inv X pins σ H s) (ha : s.heap.get? a = some oe) (hz : Zc (.ref C) d oe) (hd : oe.data = .fields vs) (na : H a = none)
    (n0 : X.s_0.heap.get? a = none) (np : ∀ p ∈ X.pn ++ pins, p.1 ≠ a) (nL : a ≠ X.env.locals) : Inv X pins σ (upd H a (EXO C a d)) s := by
  have nea : ∀ {b : Addr} {o : HO}, H b = some o → b ≠ a := fun {b o} q => ne_of_none q na
  have ne0 : ∀ {b : Addr} {o : Obj}, X.s_0.heap.get? b = some o → b ≠ a := fun {b o} q z => by
    rw [z, n0] at q
    cases q
  refine ⟨I.ok, I.os, I.bare, ⟨I.base.keep, I.base.slot, fun b o q n hb => ?_, I.base.there, fun b xs q => ?_, fun b o u q => ?_, fun b ps q => ?_⟩, I.loc, I.cell, ?_, fun x c e => ?_, fun p hp => ?_, fun b o q => ?_, I.len⟩
  · rw [upd_ne (ne0 q)]
    exact I.base.free b o q n hb
  · have z := I.base.tups b xs q
    rw [upd_ne (nea z)]
    exact z
  · have z := I.base.frzs b o u q
    rw [upd_ne (nea z)]
    exact z
  · obtain ⟨m, z⟩ := I.base.tbls b ps q
    exact ⟨m, by rw [upd_ne (nea z)]; exact z⟩
  · rw [upd_ne (Ne.symm nL)]
    exact I.free
  · obtain ⟨v, oc, ho, hc⟩ := I.cell x c e
    have nc : c ≠ a := fun z => by
      rw [z, ha] at ho
      cases ho
      rw [hd] at hc
      cases hc
    rw [upd_ne nc]
    exact I.freeC x c e
  · obtain ⟨h1, h2, h3⟩ := I.pin p hp
    exact ⟨h1, by rw [upd_ne (np p hp)]; exact h2, h3⟩
  · by_cases hb : b = a
    · subst hb
      rw [upd_same] at q
      cases q
      exact exo_okE ha hz hd
    · rw [upd_ne hb] at q
      exact (I.hok b o q).stay (fun _ _ _ z => z) (fun c z => by rw [upd_ne (nea z)]; exact z) fun c xs z => by rw [upd_ne (nea z)]; exact z

/-- what the clause wishes of an error of the body: n is slot i, m slot j -/
def wKeep (K : PySem.W.Frag) (c : Value) (i j : Nat) (Wo : WX) (D : Ends) : WX := fun cls d σ H =>
  ∃ C, cls = .ref C ∧ ∃ b, PySem.W.exmOne K cls c = some b ∧ (b = true → ∀ a, H a = none → D.nx (((σ.set i (some (.ref a))).set j (some (.ref a))).set i none) (upd H a (EXO C a d))) ∧ (b = false → Wo cls d σ H)
variable {x n m : Str} {c : Value} {i j : Nat} {body : List Stmt} {np np2 mp ap pos pos' : Pos} {tb : WX → TS} {Wo : WX}
theorem ps_try_keep (hs : X.stack = X.env :: X.outer) (hf : X.env.frame = some X.env.locals) (hex : X.ex = []) (hN : X.N.Nodup) (hi : X.N[i]? = some n) (hln : X.env.kindOf n = some .local) (hj : X.N[j]? = some m) (hlm : X.env.kindOf m = some .local)
    (hc : Names X x c) (tk : Takes X Wo) (hsw : swapsWith (.Name n np2) (some (.Name m mp)) ap.line X.env = pure false) (hdn : (n == ("__debug__" : Str)) = false) (hcn : (n == ("__classdict__" : Str)) = false)
    (hb : ∀ (W : WX) (pn : List (Addr × Obj)) (xe : Value → Shared → Prop), Takes (X.tr pn xe) W → PassesOwn (model X.prog X.w) X.A X.env xe → PSs (X.tr pn xe) body (tb W)) :
    PS X (.Try body [.ExceptHandler (some (.Name x np)) (some n) [.Assign [.Name m mp] (.Name n np2) ap] pos'] [] [] pos) (fun D σ H => tb (wKeep X.K c i j Wo D) D σ H) := by
  refine ⟨fun pins s σ H D I h => ?_⟩
  have ok0 := I.ok
  have hfr : X.A.frames = some (X.env :: X.outer) := ok0.frames.trans (congrArg some hs)
  refine wpAny_Try_except ?_
  let Wl := wKeep X.K c i j Wo D
  let hd1 : ExceptHandler := .ExceptHandler (some (.Name x np)) (some n) [.Assign [.Name m mp] (.Name n np2) ap] pos'
  refine wpAny_mono ((hb Wl (X.pn ++ pins) (fun e s₁ => wpAny (model X.prog X.w) X.A (noteFrame e X.env) (fun _ s₂ => wpAny (model X.prog X.w) X.A (setFlight e none) (fun _ s₃ => wpAny (model X.prog X.w) X.A (handleBy e X.env [hd1]) (SP X pins D) X.xe s₃) X.xe s₂) X.xe s₁)
    (fun u s' xx => ?_) PassesOwn.looking).run [] s σ H D (I.toTry _) h) (fun f s1 hsp => ?_) (fun e s1 he => he)
  · obtain ⟨a, B, sI, pins', σ', H', cls, d, rfl, J', nb, up, sky, na, os, ag, C, rfl, b, hb1, hyes, hno⟩ := xx
    have J : Inv X pins σ' H' sI := J'.ofTry ok0
    have sky' : Sky B (X.env :: X.outer) a (Zc (.ref C) d) X.env.locals s'.heap := hs ▸ sky
    show wpAny (model X.prog X.w) X.A (noteFrame (.ref a) X.env) _ _ _
    refine Sky.land Zc.steady hfr hf sky' fun h3 fl3 up3 => ?_
    have J3 : Inv X pins σ' H' { s' with heap := h3 } := J.landed nb fl3.1 (up.trans up3) os ag
    obtain ⟨oe3, vs3, he3, hz3, hd3⟩ := fl3.there
    have nfr : a ∉ frs (X.env :: X.outer) := fun hm => by
      obtain ⟨_, o', e', hnf⟩ := fl3.2.2.1.mem hm
      rw [he3] at e'
      cases e'
      exact hnf _ hd3
    have nL : a ≠ X.env.locals := fun z => nfr (List.mem_filterMap.mpr ⟨X.env, List.mem_cons_self, by rw [hf, z]⟩)
    have nF : a ∉ X.fs := fun hm => by
      obtain ⟨ev, hev, q⟩ := List.mem_filterMap.mp hm
      exact nfr (List.mem_filterMap.mpr ⟨ev, List.mem_cons_of_mem _ hev, q⟩)
    have nst : a ∉ frs X.stack := by rw [hs]; exact nfr
    have nB : B.get? a = none := fl3.2.1
    have nI : sI.heap.get? a = none := by
      cases q : sI.heap.get? a with
      | none => rfl
      | some o =>
        have z := nb a o q nst
        rw [nB] at z
        cases z
    have n0 : X.s_0.heap.get? a = none := by
      cases q : X.s_0.heap.get? a with
      | none => rfl
      | some o =>
        obtain ⟨o', z⟩ := J.base.there a o q (by rw [hex]; exact fun z => nomatch z)
        rw [nI] at z
        cases z
    have npin : ∀ p ∈ X.pn ++ pins, p.1 ≠ a := fun p hp z => by
      have q := (J.pin p hp).1
      rw [z, nI] at q
      cases q
    have S3 := J3.suite he3 hd3 na nL nF
    refine wpAny_handleBy_cons (codeAny_handlers_test ?_) (by intro q; cases q)
    have LT : PySem.W.Looks (model X.prog X.w) h3 (typeOf (.ref a)) (.ref C) := fun A Q E s k q => wpAny_typeOf_ref (k _ _ he3) (by rw [hz3.1]; exact q)
    have LM := PySem.W.exm_one (M := model X.prog X.w) (J3.kIn) LT hb1
    have test : ∀ {Q : Value → Shared → Prop} {E : Value → Shared → Prop}, Q c { s' with heap := h3 } → wpAny (model X.prog X.w) (X.A.mark (some (.ref a))) (eval (.Name x np) X.env) Q E { s' with heap := h3 } := fun {Q E} q => by
      rcases hc with ⟨hg, hdbg, hm' | ⟨hm', hv, hnn⟩⟩
      · exact ld_glob (X := X.suite a ((a, oe3) :: (X.pn ++ pins))) S3 hg hm' q hdbg
      · exact ld_blt (X := X.suite a ((a, oe3) :: (X.pn ++ pins))) S3 hg hm' hv q hnn hdbg
    refine test (LM.here ?_)
    cases b with
    | true =>
      refine codeAny_handlers_suite_as (HandSPX.lands_againZ fl3 fun h4 fl4 up4 => ?_)
      have J4 : Inv X pins σ' H' { s' with heap := h4 } := J.landed nb fl4.1 ((up.trans up3).trans up4) os ag
      obtain ⟨oe4, vs4, he4, hz4, hd4⟩ := fl4.there
      have S4 := J4.suite he4 hd4 na nL nF
      have hi' : i < σ'.length := by rw [J4.len]; exact (List.getElem?_eq_some_iff.mp hi).1
      refine store_ok (X := X.suite a ((a, oe4) :: (X.pn ++ pins))) (v := .ref a) S4 hN hi (.inl hln) rfl (fun s5 S5 => ?_) (.inr hln)
      have R := pss_one (X := X.suite a ((a, oe4) :: (X.pn ++ pins))) (ps_asg (X := X.suite a ((a, oe4) :: (X.pn ++ pins))) (pos := ap) (pe_var (i := i) (pos := np2) hi (.inl hln) hdn hcn) (pg_name (i := j) (pos := mp) hN hj (.inl hlm) (.inr hlm)) hsw)
      let D' : Ends := { nx := fun σ6 H6 => σ6 = (σ'.set i (some (.ref a))).set j (some (.ref a)) ∧ H6 = H', rt := fun _ _ => False }
      refine wpAny_mono (R.run [] s5 _ H' D' S5 ?_) (fun f s6 hsp => ?_) (fun _ _ z => False.elim z)
      · exact ⟨.ref a, List.getElem?_set_self hi', rfl, rfl⟩
      · cases f with
        | next =>
          obtain ⟨σ6, H6, S6, rfl, rfl⟩ := hsp
          have he6 := (S6.pin (a, oe4) (List.mem_append_left _ List.mem_cons_self)).1
          have T6 := track (S6.unsuite ok0) he6 hz4 hd4 na n0 npin nL
          exact gone_ok T6 hN hi hln fun s7 J7 => ⟨_, _, J7, hyes rfl a na⟩
        | brk => obtain ⟨_, _, _, z⟩ := hsp; exact z.elim
        | cont => obtain ⟨_, _, _, z⟩ := hsp; exact z.elim
        | ret u => obtain ⟨_, _, _, _, _, z⟩ := hsp; exact z.elim
    | false =>
      show wpAny _ X.A (handleBy (.ref a) X.env []) _ _ _
      refine wpAny_handleBy_nil ?_
      obtain ⟨k1, k2, k3, oe, vs, T, oT, ts', he, hz, hd, h1, hr⟩ := id fl3
      unfold PySem.passOn
      refine wpAny_bind (wpAny_field he hd h1 ?_)
      rw [if_neg (show ¬ ((Value.ref T == Value.none) = true) from by simp)]
      have fin : wpAny (model X.prog X.w) X.A (setFlight (.ref a) X.env.frame) (fun _ s4 => wpAny (model X.prog X.w) X.A (throw (.ref a) : Sem Flow) (SP X pins D) X.xe s4) X.xe { s' with heap := h3 } := by
        rw [hf]
        refine HandSPX.setFlight_upZ fl3 fun h4 hh4 up4 => wpAny_throw (tk _ _ ⟨a, B, sI, pins, σ', H', .ref C, d, rfl, J, nb, (up.trans up3).trans up4, .inr (.inr (by rw [hs]; exact hh4)), na, os, ag, hno rfl⟩)
      first
        | exact wpAny_bind (wpAny_pure (wpAny_bind fin))
        | exact wpAny_bind fin
  · cases f with
    | next =>
      obtain ⟨σ', H', J', q⟩ := hsp
      exact wpAny_execs_nil ⟨σ', H', J'.ofTry ok0, q⟩
    | ret u =>
      obtain ⟨v, σ', H', J', r, q⟩ := hsp
      exact ⟨v, σ', H', J'.ofTry ok0, r, q⟩
    | _ =>
      obtain ⟨σ', H', J', q⟩ := hsp
      exact ⟨σ', H', J'.ofTry ok0, q⟩

/-- isinstance(e, c), e a known error of the program's own -/
def rIsX (K : PySem.W.Frag) : List V → Hp → VK → Prop := fun xs H Q => ∃ (a C dd : Addr) (fs : List (Str × V)) (c : V) (u : Value) (b : Bool), xs = [.ref a, c] ∧ ClsV c u ∧ ExcT K C ∧ H a = some (EXO C a (some dd)) ∧ XD H dd fs ∧ PySem.W.kitOne K (.ref C) u = some b ∧ Q (.bl b) H
theorem call_isX : CallR X (.builtin "isinstance") (rIsX X.K) := by
  intro pins s σ H xs us Q I r h
  obtain ⟨a, C, dd, fs, c, u, b, rfl, k, T, ea, ed, e, q⟩ := h
  obtain ⟨u1, u2, rfl, r1, r2⟩ := vals2 r
  have e2 := k.eq r2
  subst e2
  obtain rfl : u1 = Value.ref a := r1
  obtain ⟨oe, od, mA, J, _, _⟩ := inst_of I ea ed
  have hcl : (PySem.W.clsIn X.K C).isSome = true := by
    obtain ⟨cd, hC, _⟩ := PySem.W.any_some T.hd
    rw [hC]
    rfl
  exact PySem.W.kia_one (PySem.W.kitx_exc hcl T.ga T.gg T.be T.kl T.ge T.tk T.mo) I.kIn J e (fun z => nomatch z) fun tk => ⟨.bl b, H, I.tok tk, rfl, q⟩
end
end KZ
end

section
set_option Elab.async false
set_option linter.all false
set_option maxRecDepth 100000
set_option maxHeartbeats 4000000
/-! calls with keywords alone: of defs, of own errors -/
namespace PySem
namespace KZ5
open PySem.HandSPX Builtin Builtin.ObjectAttr
section
variable {M : Model} {A : Around} {E : Value → Shared → Prop} {h : Heap} {g : Array GenState} {d : Drawn} {t : Nat} {os : OsState} {prog : Program} {w : World} {R : Result → Shared → Prop}
variable {nm q : Str} {C N : Addr} {bs bm bmB : List Value} {hdct : Bool} {sn : List Str} {sub : List Value} {ab : Bool} {col : Option Bool} {dd : Option Addr} {k0 k1 k2 k3 k5 : Option Value} {B newId initId : String} {kws : List (Str × Value)}
theorem check_newK (F : ExcBaseFacts B newId initId bmB) (hT : ∀ X : String, bm.contains (.type X) = bmB.contains (.type X)) {rest : List Value} {Q : Unit → Shared → Prop}
    (hC : h.get? C = some (excClassObj nm q C N bs bm hdct sn sub ab col dd k0 k1 k2 k3 k5 newId)) (hq : Q () ⟨h, g, d, t, os⟩) : wpAny M A (checkBuiltinCall newId ⟨.ref C :: rest, kws⟩) Q E ⟨h, g, d, t, os⟩ := by
  have hco : (Value.ref C :: bm).contains (.type B) = true := by rw [List.contains_cons, hT, F.hasB, Bool.or_true]
  have hst := F.noStar
  simp only [checkBuiltinCall, F.newKind, F.newSplit, F.newRow]
  repeat (first | refine wpAny_loadPart_at hC ?_ | (refine wpAny_isSubtype_exc hC ?_; rw [hco]) | refine wpAny_staticBase_exc hC ?_ | refine wpAny_madeBy_exc hC ?_ | simp only [bne_self_eq_false, Bool.false_eq_true, if_false] | wp_step)
  exact hq
theorem new_K (F : ExcBaseFacts B newId initId bmB) (hT : ∀ X : String, bm.contains (.type X) = bmB.contains (.type X))
    (hC : h.get? C = some (excClassObj nm q C N bs bm hdct sn sub ab col dd k0 k1 k2 k3 k5 newId))
    (hq : R (.ok (.ret (.ref (h.objs.size + 1)))) ⟨(h.push (W.kdv_tup [])).push (excO C h.objs.size), g, d, t, os⟩) : codeAny (model prog w) A (.builtin newId ⟨[.ref C], kws⟩) R ⟨h, g, d, t, os⟩ := by
  have hends := F.ends
  have hc1 : (Value.ref C :: bm).contains (.type B) = true := by rw [List.contains_cons, hT, F.hasB, Bool.or_true]
  have hc2 : (Value.ref C :: bm).contains (.type "AttributeError") = false := by rw [List.contains_cons, hT, F.noAttr]; rfl
  have hc3 : (Value.ref C :: bm).contains (.type "NameError") = false := by rw [List.contains_cons, hT, F.noName]; rfl
  refine codeAny_builtinAt F.entry ?_
  unfold Builtin.«BaseException.__new__»
  refine wpAt_bind ?_
  show wpAt _ _ _ (stack >>= _) _ _ _
  refine wpAt_bind (wpAt_stack fun p below => wpAt_of_wpAny ?_)
  wp_walk
  refine wpAt_of_wpAny ?_
  rw [F.owner]
  repeat (first | with_reducible refine wpAny_madeHere_exc F.canon hC ?_ | with_reducible refine wpAny_loadPart_at hC ?_ | (with_reducible refine wpAny_isSubtype_exc hC ?_; first | rw [hc1] | rw [hc2] | rw [hc3]) | wp_step)
  show R _ _
  rw [Heap.size_push]
  exact hq
theorem type_call_K (F : ExcBaseFacts B newId initId bmB) (hT : ∀ X : String, bm.contains (.type X) = bmB.contains (.type X)) {fI : Addr} {Q : Fin → Shared → Prop}
    (hC : h.get? C = some (excClassObj nm q C N bs bm hdct sn sub ab col dd k0 k1 k2 k3 k5 newId))
    (hi : W.Looks (model prog w) h (typeLookup (.ref C) "__init__") (some (.ref fI))) (hb : ∀ self, W.Looks (model prog w) h (bindSpecial (.ref fI) self) (.ref fI, [self]))
    (hq : codeAny (model prog w) A (.call (.ref fI) ⟨[.ref (h.objs.size + 1)], kws⟩)
      (fun r s' => match r with | .ok (.ret v) => v = .none ∧ Q (.done (.ret (.ref (h.objs.size + 1)))) s' | .ok _ => False | .error e => E e s') ⟨(h.push (W.kdv_tup [])).push (excO C h.objs.size), g, d, t, os⟩) :
    wpAny (model prog w) A (Builtin.«type.__call__» ⟨[.ref C], kws⟩) Q E ⟨h, g, d, t, os⟩ := by
  repeat (first | with_reducible refine wpAny_loadPart_at hC ?_ | with_reducible refine wpAny_madeBy_exc hC ?_ | wp_step)
  refine codeAny_call_builtin_code (Code.quiet_builtin _ F.quiet) (check_newK F hT hC ?_)
  refine new_K F hT hC ?_
  show wpAny _ _ _ _ _ _
  have k : ∀ b o, h.get? b = some o → ((h.push (W.kdv_tup [])).push (excO C h.objs.size)).get? b = some o := fun b o e => Heap.get?_push_of_some _ (Heap.get?_push_of_some _ e)
  have hC2 := k _ _ hC
  have hget : ((h.push (W.kdv_tup [])).push (excO C h.objs.size)).get? (h.objs.size + 1) = some (excO C h.objs.size) := by heap_get
  have hcC : (Value.ref C :: bm).contains (.ref C) = true := by simp
  have i1 := hi.keeps k
  have b1 := (hb (.ref (h.objs.size + 1))).keeps k
  unfold isInstance
  repeat (first | with_reducible refine wpAny_loadPart_at hget ?_ | (with_reducible refine wpAny_isSubtype_exc hC2 ?_; rw [hcC]) | wp_step)
  show wpAny _ _ (typeLookup (.ref C) _) _ _ _
  refine i1.at (wpAny_holding (wpAny_bind (b1.at ?_)))
  refine wpAny_bind (wpAny_call (codeAny_mono hq fun r s' z => ?_))
  rcases r with e | (v | _ | _ | _) <;> first | exact z | exact z.elim | skip
  obtain ⟨rfl, z⟩ := z
  first
    | exact wpAny_pure (wpAny_pure z)
    | (wp_walk; exact z)
theorem check_type_K (hC : h.get? C = some (excClassObj nm q C N bs bm hdct sn sub ab col dd k0 k1 k2 k3 k5 newId)) {Q : Unit → Shared → Prop}
    (hq : Q () ⟨h, g, d, t, os⟩) : wpAny M A (checkBuiltinCall "type.__call__" ⟨[.ref C], kws⟩) Q E ⟨h, g, d, t, os⟩ := by
  have f3 := tc_sub
  have hT : (⟨h, g, d, t, os⟩ : Shared).TypeIs (.ref C) "type" := ⟨_, hC, rfl⟩
  simp only [checkBuiltinCall, tc_kind, tc_split]
  repeat (any_goals (first | assumption | with_reducible refine wpAny_loadPart_at hC ?_ | with_reducible refine wpAny_onRaise ?_ | with_reducible refine wpAny_map ?_ | wp_step))
theorem call_K (F : ExcBaseFacts B newId initId bmB) (hT : ∀ X : String, bm.contains (.type X) = bmB.contains (.type X)) {fI : Addr}
    (hC : h.get? C = some (excClassObj nm q C N bs bm hdct sn sub ab col dd k0 k1 k2 k3 k5 newId))
    (hi : W.Looks (model prog w) h (typeLookup (.ref C) "__init__") (some (.ref fI))) (hb : ∀ self, W.Looks (model prog w) h (bindSpecial (.ref fI) self) (.ref fI, [self]))
    (hq : codeAny (model prog w) (A.under (.builtin "type.__call__" ⟨[.ref C], kws⟩)) (.call (.ref fI) ⟨[.ref (h.objs.size + 1)], kws⟩) (W.InitBack (h.objs.size + 1) R) ⟨(h.push (W.kdv_tup [])).push (excO C h.objs.size), g, d, t, os⟩) :
    codeAny (model prog w) A (.call (.ref C) ⟨[], kws⟩) R ⟨h, g, d, t, os⟩ := by
  have f1 := tc_lookup
  have f2 := tc_bind (.ref C)
  have hTy : (⟨h, g, d, t, os⟩ : Shared).TypeIs (.ref C) "type" := ⟨_, hC, rfl⟩
  refine codeAny_of_tree ?_
  show wpAny _ _ (callAny (.ref C) _) _ _ _
  repeat (any_goals (first | assumption | with_reducible refine wpAny_loadPart_at hC ?_ | wp_step))
  refine ⟨rfl, ?_⟩
  refine codeAny_call_builtin_at (Code.quiet_builtin _ (by decide +kernel)) entry_typeCall (check_type_K hC (type_call_K F hT hC hi hb ?_))
  refine codeAny_mono hq fun r s' z => ?_
  rcases r with e | (v | _ | _ | _) <;> exact z
end
end KZ5
end PySem
namespace KZ
open PySem PySem.Spec PyProof.Rows L2
section
variable {X : Cx} {cx : CXT} {k : Nat} {f C fI : Addr} {fd : FuncData} {ps ks : List Str} {sp : Sp} {E : XK} {x : Str} {p pos : Pos} {kws : List Keyword} {tk : TA} {g : List Value → List Value → List Value} {gV : List V → List V → List V}
/-- f(k = v, ..) -/
theorem pe_callK0 (F : FnOk X.prog X.w X.K X.mg X.base cx k f fd ps sp) (hr : Room k X.A) (hg : Gl X x) (hm : X.mg x = some (.ref f)) (hk : PySem.W.keepIn X.K (.ref f) = true) (hb : KBinds X.K fd ps ks g gV) (hx : Passes cx X E) (hkw : PK X kws tk)
    (hall : (backToKw pos (keywordEach kws X.env)).all (·.1.isSome) = true := by rfl) (hks : (backToKw pos (keywordEach kws X.env)).filterMap (·.1) = ks := by rfl) (hdb : (x == ("__debug__" : Str)) = false := by decide)
    (hpl : ((backTo pos (starEach [] X.env)).any (·.1) || (backToKw pos (keywordEach kws X.env)).any (·.1.isNone)) = false := by rfl) : PE X (.Call (.Name x p) [] kws pos) (tCallK sp gV E tNil tk) :=
  ⟨fun pins s σ H Q I h => wpAny_Call_Name_kw (ld_glob I hg hm (PySem.W.callWith_KW0 (h₀ := X.base) I.ok.mod.kin hk hall (thn (hkw.run pos pins s σ H _ I h) fun ws s2 ⟨zs, H2, I2, rz, q2⟩ => ⟨I2.kIn, by
    rw [hks]
    exact run_fnk (us := []) (vs := []) F hr hb hx I2 .nil rz q2⟩) hpl) hdb)⟩
/-- C(k = v, ..), an own error -/
def tOexK (C : Addr) (sp : Sp) (gV : List V → List V → List V) (tk : TA) : TE := fun σ H Q => tk σ H fun zs H1 => ∀ a, H1 a = none → sp (gV [.ref a] zs) (upd H1 a (exo a C none))
  (fun v H2 => v = .non ∧ ∃ d, H2 a = some (exo a C (some d)) ∧ Q (.ref a) (upd H2 a (EXO C a (some d)))) (fun _ _ _ => False)
theorem pe_oexK0 (T : OexC X.K C) (iC : PySem.W.findIn X.K (.ref C) "__init__" = some (some (.ref fI))) (tI : PySem.W.typeIn X.K (.ref fI) = some (.type "function")) (F1 : FnOk X.prog X.w X.K X.mg X.base cx k fI fd ps sp) (hr : Room (k + 1) X.A)
    (hb : KBinds X.K fd ps ks g gV) (hx : Passes cx X (fun _ _ _ => False)) (hg : Gl X x) (hm : X.mg x = some (.ref C)) (hkw : PK X kws tk)
    (hall : (backToKw pos (keywordEach kws X.env)).all (·.1.isSome) = true := by rfl) (hks : (backToKw pos (keywordEach kws X.env)).filterMap (·.1) = ks := by rfl) (hdb : (x == ("__debug__" : Str)) = false := by decide)
    (hpl : ((backTo pos (starEach [] X.env)).any (·.1) || (backToKw pos (keywordEach kws X.env)).any (·.1.isNone)) = false := by rfl) : PE X (.Call (.Name x p) [] kws pos) (tOexK C sp gV tk) := by
  refine ⟨fun pins s σ H Q I h => ?_⟩
  obtain ⟨nm, q, N, bs, bm, sn, sub, ab, col, dd, k0, k1, k2, k3, k5, hC, hbm⟩ := T.cls
  refine wpAny_Call_Name_kw (ld_glob I hg hm ?_ hdb)
  refine PySem.W.callWith_KW0 (h₀ := X.base) I.ok.mod.kin T.kC hall (thn (hkw.run pos pins s σ H _ I h) fun ws s1 ⟨zs, H1, I1, rz, q1⟩ => ⟨I1.kIn, ?_⟩) hpl
  rw [hks]
  show wpAny _ _ (call (.ref C) [] (ks.zip ws)) _ _ _
  obtain ⟨hp, gg, dr, tk, os⟩ := s1
  obtain ⟨a, hA⟩ : ∃ a, a = hp.objs.size + 1 := ⟨_, rfl⟩
  have hsz : hp.objs.size ≤ a := by rw [hA]; exact Nat.le_succ _
  have hq := q1 a (I1.hok.fresh hsz)
  have kk : ∀ b o, hp.get? b = some o → ((hp.push (PySem.W.kdv_tup [])).push (PySem.HandSPX.excO C hp.objs.size)).get? b = some o := fun b o e => Heap.get?_push_of_some _ (Heap.get?_push_of_some _ e)
  have hget : ((hp.push (PySem.W.kdv_tup [])).push (PySem.HandSPX.excO C hp.objs.size)).get? a = some (PySem.HandSPX.excO C hp.objs.size) := by rw [hA]; heap_get
  have I2 : Inv X pins σ (upd H1 a (exo a C none)) ⟨(hp.push (PySem.W.kdv_tup [])).push (PySem.HandSPX.excO C hp.objs.size), gg, dr, tk, os⟩ :=
    I1.laid (t' := tk) (a := a) (o := exo a C none) (h' := (hp.push (PySem.W.kdv_tup [])).push (PySem.HandSPX.excO C hp.objs.size)) kk hsz (exo_ok hget)
  have r2 := hb.rel (vs := [V.ref a]) (us := [Value.ref a]) (.cons rfl .nil) rz
  have hl : (g [Value.ref a] ws).length = ps.length := by
    rw [← r2.length]
    exact F1.len _ _ _ _ hq
  have core := F1.run _ X.stack _ _ ⟨[Value.ref a], ks.zip ws⟩ (g [Value.ref a] ws) _ _ (fun _ _ _ => False) (hr.make C [] (ks.zip ws)) (I2.env0.make C [] (ks.zip ws)) (hb.to _ [Value.ref a] ws I2.kIn hl) r2 hq
  rw [hA] at core
  refine wpAny_call (PySem.KZ5.call_K F.excBase_ValueError (fun Y => PySem.HandSPX.refsVE_contains Y bm hbm) (I1.kIn _ _ hC) (PySem.W.looks_findIn I1.kIn iC) (fun self => PySem.W.bind_fn I1.kIn self tI) (codeAny_mono core fun r s' hq' => ?_))
  rw [← hA] at hq' ⊢
  cases r with
  | error er => exact hx pins σ _ _ er s' I2 hq'
  | ok fl =>
    cases fl with
    | ret u =>
      obtain ⟨v, H2, os2, bare2, un2, hok2, rv, ev, d, ea, q2⟩ := hq'
      subst ev
      have J : Inv X pins σ H2 s' := I2.call' (ch := []) os2 un2 hok2 bare2 (fun _ z => nomatch z)
      exact ⟨rv, .ref a, _, retrack J ea, rfl, q2⟩
    | _ => exact False.elim hq'
end
end KZ
end

section
set_option Elab.async false
set_option linter.all false
set_option maxRecDepth 100000
set_option maxHeartbeats 4000000
/-! the law's own call, its promise told where no repr is under way, the modules' dict known -/
namespace KZ
open PySem PySem.Spec PyProof.Rows L2

section
variable {P : Program} {w : World} {K : PySem.W.Frag} {mg mb : Str → Option Value} {k : Nat} {fa a : Addr} {cs : List (Addr × Addr)} {fd : FuncData} {x : Str} {sp : Sp} {st : Shared} {vs : List Value} {ns : List Int}
/-- the head's heap, as the law's call wants it -/
structure TopAt (K : PySem.W.Frag) (mg mb : Str → Option Value) (cs : List (Addr × Addr)) (st : Shared) : Prop where
  kin : K.In st.heap
  gl : st.heap.Ns mainGlobals mg
  bl : st.heap.Ns builtinsNs mb
  bb : ∀ x : Str, x ≠ "__name__" → mb x = bootBuiltins x
  lim : st.heap.NoLimit
  mods : ∃ mm, st.heap.Ns sysModules mm
  gens : st.gens = #[]
  tabs : ∀ p ∈ cs, st.heap.get? p.2 = some { cls := .none, data := .fields #[] }
  notK : ∀ p ∈ cs, K.lookup p.2 = none
  code : ∀ p ∈ cs, PySem.W.CodeHd st.heap p.1 p.2
  bm : ∃ (bm : Addr) (ob : Obj), mg "__builtins__" = some (.ref bm) ∧ bm ≠ builtinsNs ∧ st.heap.get? bm = some ob ∧ ob.cls = .type "module" ∧ ob.dict = some builtinsNs ∧ ob.data = .plain
/-- what is tracked at the law's call: the script, where it is no object of the module, and the tables -/
def H0 (K : PySem.W.Frag) (cs : List (Addr × Addr)) (a : Addr) (vs : List Value) (ns : List Int) : Hp := fun b =>
  if b = a ∧ K.lookup a = none then some (.frz { cls := .type "list", data := .seq vs.toArray } (.lst (ns.map V.int))) else if b ∈ cs.map (·.2) then some (.tbl #[]) else none
theorem H0_not {b : Addr} (h1 : b ≠ a) (h2 : b ∉ cs.map (·.2)) : H0 K cs a vs ns b = none := by
  unfold H0
  rw [if_neg (fun z => h1 z.1), if_neg h2]
theorem tabAt (T : TopAt K mg mb cs st) {b : Addr} (hb : b ∈ cs.map (·.2)) : st.heap.get? b = some { cls := .none, data := .fields #[] } ∧ K.lookup b = none := by
  obtain ⟨p, hp, e⟩ := List.mem_map.mp hb
  subst e
  exact ⟨T.tabs p hp, T.notK p hp⟩
theorem notTab (T : TopAt K mg mb cs st) (ha : st.heap.get? a = some { cls := .type "list", data := .seq vs.toArray }) : a ∉ cs.map (·.2) := fun z => by
  have q := (tabAt T z).1
  rw [ha] at q
  cases q
theorem H0_tab (T : TopAt K mg mb cs st) (ha : st.heap.get? a = some { cls := .type "list", data := .seq vs.toArray }) {b : Addr} (hb : b ∈ cs.map (·.2)) : H0 K cs a vs ns b = some (.tbl #[]) := by
  unfold H0
  rw [if_neg (show ¬ (b = a ∧ K.lookup a = none) from fun z => notTab T ha (z.1 ▸ hb)), if_pos hb]
/-- an object that is neither a list nor an empty table is not tracked -/
theorem H0_free (T : TopAt K mg mb cs st) (ha : st.heap.get? a = some { cls := .type "list", data := .seq vs.toArray }) {b : Addr} {o : Obj} (e : st.heap.get? b = some o) (h1 : ∀ vs n, o.data ≠ .seq vs n) (h2 : o.data ≠ .fields #[]) : H0 K cs a vs ns b = none := by
  refine H0_not (fun z => ?_) fun z => ?_
  · rw [z, ha] at e
    cases e
    exact h1 _ _ rfl
  · rw [(tabAt T z).1] at e
    cases e
    exact h2 rfl
theorem H0_ok (T : TopAt K mg mb cs st) (ha : st.heap.get? a = some { cls := .type "list", data := .seq vs.toArray }) (hi : IntsAre vs ns) (hl : ns.length ≤ sizeLine) : HOk P w (H0 K cs a vs ns) st.heap := fun b u z => by
  unfold H0 at z
  split at z
  · rename_i q
    cases z
    rw [q.1]
    exact ⟨ha, by rw [List.length_map]; exact hl, vs, _, vals_ints hi, ha⟩
  · split at z
    · rename_i q
      cases z
      exact (tabAt T q).1
    · cases z
theorem H0_sq (T : TopAt K mg mb cs st) (ha : st.heap.get? a = some { cls := .type "list", data := .seq vs.toArray }) (hi : IntsAre vs ns) (hl : ns.length ≤ sizeLine) : SqL K (H0 K cs a vs ns) a (ns.map V.int) := by
  cases hk : K.lookup a with
  | none => exact .inl (.inr ⟨_, by unfold H0; rw [if_pos ⟨rfl, hk⟩]⟩)
  | some o =>
    have e := T.kin a o hk
    rw [ha] at e
    cases e
    exact .inr ⟨_, vs.toArray, _, hk, rfl, rfl, rfl, by rw [List.size_toArray, hi.length]; exact hl, by simpa using vals_ints hi⟩
theorem top_base (T : TopAt K mg mb cs st) (ha : st.heap.get? a = some { cls := .type "list", data := .seq vs.toArray }) :
    L2.Mod K mg (hidT st.heap (H0 K cs a vs ns)) ∧ ModsD (hidT st.heap (H0 K cs a vs ns)) ∧ ∀ p ∈ cs, LamX.TabB (hidT st.heap (H0 K cs a vs ns)) mg p.1 p.2 := by
  have dk : ∀ {b : Addr} {o : Obj} {es : Array DictEntry} {ep : Nat}, st.heap.get? b = some o → o.data = .dict es ep → (hidT st.heap (H0 K cs a vs ns)).get? b = some o := fun e d =>
    hidT_get e (H0_free T ha e (fun _ _ z => by rw [d] at z; cases z) fun z => by rw [d] at z; cases z)
  have nk : ∀ {b : Addr} {m : Str → Option Value}, st.heap.Ns b m → (hidT st.heap (H0 K cs a vs ns)).Ns b m := fun ⟨o, es, ep, e, d, r⟩ => ⟨o, es, ep, dk e d, d, r⟩
  have kin : K.In (hidT st.heap (H0 K cs a vs ns)) := fun b o e => hidT_get (T.kin b o e) (by
    unfold H0
    rw [if_neg (fun z => by rw [z.1, z.2] at e; cases e), if_neg (fun z => by rw [(tabAt T z).2] at e; cases e)])
  obtain ⟨mm, om, es, ep, em, dm, _⟩ := T.mods
  obtain ⟨mc, l1, l2⟩ := T.lim
  refine ⟨⟨kin, nk T.gl, ⟨mb, nk T.bl, T.bb⟩, mc, nk l1, l2⟩, ⟨om, es, ep, dk em dm, dm⟩, fun p hp => ⟨?_, ?_, fun z => ?_⟩⟩
  · obtain ⟨o, us, file, tf, flags, tg, inF, text, tt, e1, r1, r2, r3, rr⟩ := T.code p hp
    refine ⟨o, us, file, tf, flags, tg, inF, text, tt, hidT_get e1 (H0_free T ha e1 (fun _ _ z => by rw [r2] at z; cases z) fun z => ?_), r1, r2, r3, rr⟩
    rw [r2] at z
    cases z
    simp at r3
  · obtain ⟨bm, ob, b1, b2, b3, b4, b5, b6⟩ := T.bm
    have g1 : bm ≠ mainGlobals := fun q => by
      obtain ⟨o, es, ep, e, hd, _⟩ := T.gl
      rw [q, e] at b3
      cases b3
      rw [hd] at b6
      cases b6
    have g2 : bm ≠ p.2 := fun q => by
      rw [q, T.tabs p hp] at b3
      cases b3
      cases b6
    exact ⟨bm, ob, b1, b2, g1, g2, hidT_get b3 (H0_free T ha b3 (fun _ _ z => by rw [b6] at z; cases z) fun z => by rw [b6] at z; cases z), b4, b5, b6⟩
  · obtain ⟨o, es, ep, e, hd, _⟩ := T.gl
    rw [z, T.tabs p hp] at e
    cases e
    cases hd
/-- THE CALL -/
theorem law_callG (T : TopAt K mg mb cs st) (ha : st.heap.get? a = some { cls := .type "list", data := .seq vs.toArray }) (hi : IntsAre vs ns) (hl : ns.length ≤ sizeLine) (hr : Room k callerA)
    (F : ∀ base : Heap, K.In base → base.Ns mainGlobals mg → ModsD base → (∀ p ∈ cs, LamX.TabB base mg p.1 p.2) → FnG P w K mg base CX0 k fa fd [x] sp) (hbind : ∀ (s : Shared) (u : Value), BindsTo s fd ⟨[u], []⟩ [(x, u)])
    (hsp : ∀ H : Hp, (∀ p ∈ cs, H p.2 = some (.tbl #[])) → SqL K H a (ns.map V.int) → sp [.ref a] H (fun v _ => v = .bl true) fun _ _ _ => False) :
    codeAny (model P w) callerA (.call (.ref fa) ⟨[.ref a], []⟩) (fun r s' => r = .ok (.ret (.bool true)) ∧ OldK st.heap s'.heap ∧ s'.os = st.os ∧ AllBare s'.gens) st := by
  obtain ⟨hM, hD, hT⟩ := top_base (vs := vs) (ns := ns) T ha
  have ok : HOk P w (H0 K cs a vs ns) st.heap := H0_ok T ha hi hl
  have e0 : Env0 P w K mg (hidT st.heap (H0 K cs a vs ns)) callerA [] st (H0 K cs a vs ns) := ⟨rfl, hM, fun b o e => of_hidT e, Nat.le_of_eq (hidT_size _ _), trivial, (fun b hb => nomatch hb), ok, .of_eq T.gens⟩
  refine codeAny_mono ((F _ hM.kin hM.glob hD hT).runG callerA [] st _ ⟨[.ref a], []⟩ [.ref a] [.ref a] _ _ rfl hr e0 (hbind st (.ref a)) (.cons rfl .nil) (hsp _ (fun p hp => H0_tab T ha (List.mem_map.mpr ⟨p, hp, rfl⟩)) (H0_sq T ha hi hl))) fun r s' h => ?_
  cases r with
  | error e => exact (show False from h).elim
  | ok fl =>
    cases fl with
    | ret u =>
      obtain ⟨v, H', os, bare, un, ok', r', q⟩ := h
      have q' : v = .bl true := q
      subst q'
      obtain rfl : u = Value.bool true := r'
      have same : ∀ b o, b ∉ cs.map (·.2) → st.heap.get? b = some o → s'.heap.get? b = some o := fun b o nb e => by
        cases z : H0 K cs a vs ns b with
        | none => exact un.keep b o e z (fun y => nomatch (show b ∈ ([] : List Addr) from y)) (fun y => nomatch y)
        | some u =>
          have zz := z
          unfold H0 at zz
          by_cases hba : b = a ∧ K.lookup a = none
          · rw [if_pos hba] at zz
            cases zz
            obtain ⟨e1, _⟩ := ok b _ z
            obtain ⟨e2, _⟩ := ok' b _ (un.frzs b _ _ z)
            rw [e] at e1
            cases e1
            exact e2
          · rw [if_neg hba, if_neg nb] at zz
            cases zz
      have grown : ∀ p ∈ cs, ∃ more : Array Value, s'.heap.get? p.2 = some { cls := .none, data := .fields more } := fun p hp => by
        obtain ⟨more, z⟩ := un.tbls p.2 #[] (H0_tab T ha (List.mem_map.mpr ⟨p, hp, rfl⟩))
        exact ⟨_, ok' p.2 _ z⟩
      refine ⟨rfl, ⟨fun b o e => ?_, fun b o e => ?_⟩, os, bare⟩
      · by_cases hb : b ∈ cs.map (·.2)
        · obtain ⟨p, hp, ep⟩ := List.mem_map.mp hb
          obtain ⟨more, hm⟩ := grown p hp
          subst ep
          rw [T.tabs p hp] at e
          cases e
          exact .inr (.inl ⟨((T.code p hp).tab (T.tabs p hp)).isCodeTable, rfl, #[], more, rfl, by rw [Array.empty_append]; exact hm⟩)
        · exact .inl (same b o hb e)
      · by_cases hb : b ∈ cs.map (·.2)
        · obtain ⟨p, hp, ep⟩ := List.mem_map.mp hb
          obtain ⟨more, hm⟩ := grown p hp
          subst ep
          rw [T.tabs p hp] at e
          cases e
          exact ⟨_, hm⟩
        · exact ⟨o, same b o hb e⟩
    | _ => exact False.elim h
end
/-- what is known of the law's promise at the head's heap h -/
def LawG (l : PySem.W.OpenLaw) (w : World) (K : PySem.W.Frag) (k n : Nat) (x : Str) (mg : Str → Option Value) (fa : Addr) (h : Heap) : Prop :=
  ∃ (fd : FuncData) (cs : List (Addr × Addr)) (sp : Sp), (∀ p ∈ cs, h.get? p.2 = some { cls := .none, data := .fields #[] }) ∧ (∀ p ∈ cs, K.lookup p.2 = none) ∧ (∀ p ∈ cs, PySem.W.CodeHd h p.1 p.2) ∧ (∀ (s : Shared) (u : Value), BindsTo s fd ⟨[u], []⟩ [(x, u)]) ∧
    (∀ (H : Hp) (a : Addr) (ns : List Int), ns.length ≤ n → (∀ z ∈ ns, Builtin.Int.intBits z ≤ 1048576) → (∀ p ∈ cs, H p.2 = some (.tbl #[])) → SqL K H a (ns.map V.int) → sp [.ref a] H (fun v _ => v = .bl true) fun _ _ _ => False) ∧
    ∀ base : Heap, K.In base → base.Ns mainGlobals mg → ModsD base → (∀ p ∈ cs, LamX.TabB base mg p.1 p.2) → FnG l.prog w K mg base CX0 k fa fd [x] sp
theorem walkG {l : PySem.W.OpenLaw} {n k : Nat} {q : Program} {loose : List Str} {XP : (Str → Option Value) → Heap → Prop} {YP : World → Heap → Prop} {d : DefRec} {K : Params → PySem.W.Frag} {x : Str}
    (hn : l.most = some n) (hn2 : n ≤ sizeLine) (hdf : d.params.defaults = []) (hr : Room k callerA) (hno : importsNone q = true) (hY : ∀ (w : World) (h : Heap), YP w h → (K w.params).In h)
    (F : ∀ (w : World) (mg : Str → Option Value) (fa : Addr) (h : Heap), YP w h → (K w.params).In h → h.Ns mainGlobals mg → mg d.name = some (.ref fa) → LawG l w (K w.params) k n x mg fa h) :
    PySem.W.WalkO q loose XP YP l.row.toRowW d [] (fun f vs => PySem.call f vs) := by
  refine Att.attach_callB hn hdf fun w s₀ s₁ mg mb fa o pm cd doc a vs ns G Y ho hd hcd hmg hobj hints hlen hbits hg => ?_
  have kx := hY w _ Y
  obtain ⟨fd, cs, sp, hT, nT, C, hb, hsp, hF⟩ := F w mg fa _ Y kx G.T.g hmg
  have ms := (G.T.seer hno).mods
  exact law_callG ⟨kx, G.T.g, G.T.b, G.T.builtins, G.T.nolimit, ⟨_, ms.choose_spec.1⟩, hg, hT, nT, C, G.T.bmain⟩ hobj hints (Nat.le_trans hlen hn2) hr hF hb fun H hH hS => hsp H a ns hlen hbits hH hS
end KZ
end

section
set_option Elab.async false
set_option linter.all false
set_option maxRecDepth 100000
set_option maxHeartbeats 4000000
/-! own errors without a dict: made, asked by isinstance -/
namespace KZ
open PySem PySem.Spec PyProof.Rows L2
section
variable {X : Cx} {pins : List (Addr × Obj)} {σ : L2.St} {H : Hp} {s : Shared}
/-- isinstance(e, c), e an error of the program's own, with a dict or without -/
def rIsE (K : PySem.W.Frag) : List V → Hp → VK → Prop := fun xs H Q => ∃ (a C : Addr) (d : Option Addr) (c : V) (u : Value) (b : Bool), xs = [.ref a, c] ∧ ClsV c u ∧ ExcT K C ∧ H a = some (EXO C a d) ∧ (∀ dd, d = some dd → ∃ fs, XD H dd fs) ∧ PySem.W.kitOne K (.ref C) u = some b ∧ Q (.bl b) H
theorem call_isE : CallR X (.builtin "isinstance") (rIsE X.K) := by
  intro pins s σ H xs us Q I r h
  obtain ⟨a, C, d, c, u, b, rfl, k, T, ea, ed, e, q⟩ := h
  obtain ⟨u1, u2, rfl, r1, r2⟩ := vals2 r
  have e2 := k.eq r2
  subst e2
  obtain rfl : u1 = Value.ref a := r1
  have hcl : (PySem.W.clsIn X.K C).isSome = true := by
    obtain ⟨cd, hC, _⟩ := PySem.W.any_some T.hd
    rw [hC]
    rfl
  obtain ⟨oe, od, J⟩ : ∃ (oe : Obj) (od : Option Obj), PySem.W.InstAt s.heap a oe C od := by
    cases d with
    | some dd =>
      obtain ⟨fs, ed⟩ := ed dd rfl
      obtain ⟨oe, od, mA, J, _, _⟩ := inst_of I ea ed
      exact ⟨oe, _, J⟩
    | none =>
      obtain ⟨oe, vs, ha, hz, hd⟩ := EXO.get I.hok ea
      exact ⟨oe, none, ⟨ha, hz.1, by unfold PySem.W.notCls; rw [hd] <;> rfl, by rw [hz.2]; exact True.intro⟩⟩
  exact PySem.W.kia_one (PySem.W.kitx_exc hcl T.ga T.gg T.be T.kl T.ge T.tk T.mo) I.kIn J e (fun z => nomatch z) fun tk => ⟨.bl b, H, I.tok tk, rfl, q⟩
/-- C(), an own error without an __init__ of its own -/
theorem pe_oex0 {C : Addr} {bmB : List Value} {B newId initId : String} {x : Str} {p pos : Pos} (F : ExcBaseFacts B newId initId bmB) (q : PySem.W.excIn X.K C bmB newId = true) (gC : X.mg x = some (.ref C)) (kC : PySem.W.keepIn X.K (.ref C) = true) (hg : Gl X x)
    (hdb : (x == ("__debug__" : Str)) = false := by decide) :
    PE X (.Call (.Name x p) [] [] pos) (fun σ H Q => ∀ a, H a = none → Q (.ref a) (upd H a (EXO C a none))) := by
  refine ⟨fun pins s σ H Q I h => ?_⟩
  refine wpAny_Call_Name_kw (ld_glob I hg gC ?_ hdb)
  refine PySem.W.callWith_K0 I.kIn kC ?_
  obtain ⟨bm, N, nm, qn, bs, hdct, sn, sub, ab, col, dd, k0, k1, k2, k3, k5, mN, hC, hN, hni, T⟩ := exc_obj I.kIn q
  refine wpAny_call_exc_subT F T hC hN hni (fun h' a hm => ?_) (by show 0 ≤ sizeLine; omega)
  have hn : H a = none := I.hok.gone hm.new
  obtain ⟨t, ht, _, _⟩ := hm.there
  exact ⟨.ref a, upd H a (EXO C a none), I.laidN hm.keeps hm.new hn (exo_okE ht ⟨rfl, rfl⟩ rfl), rfl, h a hn⟩
end
end KZ
end

section
set_option Elab.async false
set_option linter.all false
set_option maxRecDepth 100000
set_option maxHeartbeats 4000000
/-! the end over a head by names: own errors' facts by one Bool -/
namespace KZ
open PySem PySem.Spec PyProof.Rows L2
theorem walkGE {l : PySem.W.OpenLaw} {n k : Nat} {q : Program} {loose : List Str} {XP : (Str → Option Value) → Heap → Prop} {YP : World → Heap → Prop} {d : DefRec} {x : Str}
    (hn : l.most = some n) (hn2 : n ≤ sizeLine) (hdf : d.params.defaults = []) (hr : Room k callerA) (hno : importsNone q = true)
    (F : ∀ (w : World) (mg : Str → Option Value) (fa : Addr) (h : Heap), YP w h → h.Ns mainGlobals mg → mg d.name = some (.ref fa) → ∃ K : PySem.W.Frag, K.In h ∧ LawG l w K k n x mg fa h) :
    PySem.W.WalkO q loose XP YP l.row.toRowW d [] (fun f vs => PySem.call f vs) := by
  refine Att.attach_callB hn hdf fun w s₀ s₁ mg mb fa o pm cd doc a vs ns G Y ho hd hcd hmg hobj hints hlen hbits hg => ?_
  obtain ⟨K, kx, fd, cs, sp, hT, nT, C, hb, hsp, hF⟩ := F w mg fa _ Y G.T.g hmg
  have ms := (G.T.seer hno).mods
  exact law_callG ⟨kx, G.T.g, G.T.b, G.T.builtins, G.T.nolimit, ⟨_, ms.choose_spec.1⟩, hg, hT, nT, C, G.T.bmain⟩ hobj hints (Nat.le_trans hlen hn2) hr hF hb fun H hH hS => hsp H a ns hlen hbits hH hS
theorem fun_of {K : PySem.W.Frag} {x qual : Str} {st : Stmt} {f : Addr} {fd : FuncData} (F : FunD K x qual (defArgs st) (defBody st) (defScope st) [] [] f fd) : Fun K x qual st f fd := by
  obtain ⟨oc, od, dV, kV, doc, pm, an, cdv, ct, osl, e, lk, hcd, hD, hK⟩ := F.ex
  rcases hD with ⟨_, rfl⟩ | ⟨z, _⟩
  · exact ⟨⟨oc, od, kV, doc, pm, an, cdv, ct, osl, e, lk, hcd⟩, F.kp⟩
  · exact absurd rfl z
def oexB (K : PySem.W.Frag) (C : Addr) : Bool := match K.lookup C with
  | some ⟨.type "type", _, .cls cd, sl⟩ => (match cd.mro, sl.toList with
    | .ref C' :: bm, [_, _, _, _, some (.builtin n), _] => C' == C && n == "ValueError.__new__" && !cd.hasDel && cd.hasDict && PySem.HandSPX.refsVE bm
    | _, _ => false)
  | _ => false
theorem oexB_ok {K : PySem.W.Frag} {C : Addr} (q : oexB K C = true) :
    ∃ nm q N bs bm sn sub ab col dd k0 k1 k2 k3 k5, K.lookup C = some (excClassObj nm q C N bs bm true sn sub ab col dd k0 k1 k2 k3 k5 "ValueError.__new__") ∧ PySem.HandSPX.refsVE bm = true := by
  unfold oexB at q
  split at q
  · rename_i dd cd sl ho
    split at q
    · rename_i C' bm k0 k1 k2 k3 n k5 hm hs
      simp only [Bool.and_eq_true, beq_iff_eq, Bool.not_eq_true'] at q
      obtain ⟨⟨⟨⟨rfl, rfl⟩, hdel⟩, hd⟩, hr⟩ := q
      obtain ⟨nm, bs, mro, ns, qn, hd', sn, sub, ab, col, del⟩ := cd
      dsimp only at hm hdel hd
      subst hm hdel hd
      have hsl : sl = #[k0, k1, k2, k3, some (.builtin "ValueError.__new__"), k5] := by
        obtain ⟨l⟩ := sl
        simp only at hs
        rw [hs]
      subst hsl
      exact ⟨nm, qn, ns, bs, bm, sn, sub, ab, col, dd, k0, k1, k2, k3, k5, ho, hr⟩
    · cases q
  · cases q
/-- what is asked of every error class -/
def errB (K : PySem.W.Frag) (C : Addr) : Bool := He.eqO (PySem.W.findIn K (.ref C) "__getattribute__") (some (some (.builtin "BaseException.__getattribute__"))) && (He.eqO (PySem.W.findIn K (.ref C) "__getattr__") (some none) &&
  (decide (PySem.W.subIn K (.ref C) (.type "BaseException") = some true) && (PySem.W.hasDictIn K C && (He.eqO (PySem.W.findIn K (.ref C) "__class__") (some (some (.builtin "object.__class__"))) && (He.eqO (PySem.W.specialIn K (.builtin "object.__class__") "__get__") (some (some (.builtin "getset_descriptor.__get__"))) &&
  (decide (PySem.W.takesIn K (.builtin "object.__class__") = some true) && decide (PySem.W.mroIn K C (.type "object") = some true)))))))
theorem errB_ok {K : PySem.W.Frag} {C : Addr} (h : errB K C = true) : ExcT K C := by
  obtain ⟨h1, h⟩ := He.ba h
  obtain ⟨h2, h⟩ := He.ba h
  obtain ⟨h3, h⟩ := He.ba h
  obtain ⟨h4, h⟩ := He.ba h
  obtain ⟨h5, h⟩ := He.ba h
  obtain ⟨h6, h⟩ := He.ba h
  obtain ⟨h7, h8⟩ := He.ba h
  exact ⟨He.eqO_ok h1, He.eqO_ok h2, of_decide_eq_true h3, h4, He.eqO_ok h5, He.eqO_ok h6, of_decide_eq_true h7, of_decide_eq_true h8⟩
/-- what is asked of an error class with its own __init__, its fields fs -/
def errI (K : PySem.W.Frag) (C : Addr) (fs : List Str) : Bool := errB K C && (oexB K C && (He.eqO (PySem.W.findIn K (.ref C) "__setattr__") (some (some (.builtin "object.__setattr__"))) && (decide (PySem.W.typeIn K (.ref C) = some (.type "type")) && (PySem.W.keepIn K (.ref C) &&
  (He.eqO (PySem.W.findIn K (.ref C) "__init__") (some (some (.ref (He.ma K C "__init__")))) && (decide (PySem.W.typeIn K (.ref (He.ma K C "__init__")) = some (.type "function")) && fs.all fun f => He.eqO (PySem.W.findIn K (.ref C) f) (some none)))))))
end KZ
end

section
set_option Elab.async false
set_option linter.all false
set_option maxRecDepth 100000
set_option maxHeartbeats 4000000
/-! the head's facts over a chosen part of the heap: what some names lead to, the globals' dict itself not gone into -/
namespace KZ
open PySem PySem.Spec PyProof.Rows L2 He
/-- one step further, but not through the globals -/
def grY (g : Addr → Option Obj) (as : List Addr) : List Addr :=
  ((as ++ (as.map fun a => ((g a).map refsD).getD []).flatten).filter fun a => !(Nat.beq a mainGlobals)).eraseDups
def stY (g : Addr → Option Obj) : Nat → List Addr → List Addr
  | 0, as => as
  | m + 1, as => stY g m (grY g as)
/-- the globals, and what these names lead to in m steps -/
def asY (names : List Str) (m : Nat) (g : Addr → Option Obj) : List Addr :=
  mainGlobals :: stY g m (names.map fun x => ga (frG g [mainGlobals]) x)
/-- the globals; these defs; these classes, what they name, and what their own __init__ names -/
def asZ (fs cs : List Str) (g : Addr → Option Obj) : List Addr :=
  let K0 := frG g [mainGlobals]
  let nx := fun a => ((g a).map refsD).getD []
  (mainGlobals :: ((fs.map fun x => let a := ga K0 x; (a :: nx a).filter fun b => !(Nat.beq b mainGlobals)).flatten ++
    (cs.map fun x => let C := ga K0 x; let l := nx C; let i := ma (frG g (C :: l)) C "__init__"; (C :: l) ++ (i :: nx i)).flatten)).eraseDups
section
variable (as : (Addr → Option Obj) → List Addr) (fa : List Fa) (fn : List DefD) (ts : List Tab) (tf : List Defn) (ex : PySem.W.Frag → Bool)
def partY (g : Addr → Option Obj) : PySem.W.Frag := frT g (as g)
def obsY (g : Addr → Option Obj) : AlX :=
  let K := partY as g
  (obsT fa fn ts K, ex K && tabsB g tf K)
theorem saysY {w : World} {h : Heap} (e : obsY as fa fn ts tf ex h.get? = valX fn ts w) : SaysX fa fn ts tf ex w h (partY as h.get?) := by
  have z := Prod.mk.inj e
  obtain ⟨x1, x2⟩ := ba z.2
  have at_ : ∀ p, p ∈ tf → PySem.W.codeHdIn (partY as h.get?) (cT (partY as h.get?) p).1 (cT (partY as h.get?) p).2 = true ∧
      ∃ o, h.get? (cT (partY as h.get?) p).2 = some o ∧ emptyTab o = true := by
    intro p hp
    have y := ba (List.all_eq_true.mp x2 p hp)
    refine ⟨y.1, ?_⟩
    have y2 := y.2
    split at y2
    · rename_i o ho
      exact ⟨o, ho, y2⟩
    · cases y2
  constructor
  · exact z.1
  · exact x1
  · exact fun p hp => (at_ p hp).1
  · intro p hp
    have ⟨o, ho, eo⟩ := (at_ p hp).2
    exact frT_none ho eo
  · intro p hp
    have ⟨o, ho, eo⟩ := (at_ p hp).2
    exact ho.trans (congrArg some (emptyTab_eq eo))
def hookY : PySem.W.Hook where
  α := AlX
  obs s := obsY as fa fn ts tf ex s.heap.get?
  val w := valX fn ts w
  says w h := ∃ K : PySem.W.Frag, K.In h ∧ SaysX fa fn ts tf ex w h K
  of _ _ e := ⟨partY as _, frT_in, saysY as fa fn ts tf ex e⟩
  keeps _ _ _ c k := by
    obtain ⟨K, hK, s⟩ := c
    exact ⟨K, hK.keeps k, s.t, s.more, s.hd, s.out, fun p hp => k _ _ (s.empty p hp)⟩
theorem obsY_eq {g : Addr → Option Obj} {s : Shared} (h : ∀ a, g a = s.heap.get? a) : obsY as fa fn ts tf ex g = (hookY as fa fn ts tf ex).obs s := by
  rw [show g = s.heap.get? from funext h]
  rfl
end
/-- the same world; one row of the text's is told -/
def told (b : Bool) (w : World) : World := ⟨w.draws, { w.params with followText := fun row => if row = "special-get-raises" then b else w.params.followText row }⟩
theorem told_eq {b : Bool} {w : World} (h : w.params.followText "special-get-raises" = b) : told b w = w := by
  obtain ⟨d, p⟩ := w
  have e : (fun row => if row = "special-get-raises" then b else p.followText row) = p.followText := funext fun row => by
    by_cases z : row = "special-get-raises"
    · rw [if_pos z, z]; exact h.symm
    · rw [if_neg z]
  show (⟨d, { p with followText := fun row => if row = "special-get-raises" then b else p.followText row }⟩ : World) = ⟨d, p⟩
  rw [e]
end KZ
end

section
set_option Elab.async false
set_option linter.all false
set_option maxRecDepth 100000
set_option maxHeartbeats 4000000
/-! the top's run, its plain steps without the looks that say nothing of them -/
noncomputable section
namespace KZ
open PySem PySem.W PySem.Calls PyProof.Rows HandSHeadRun
/-- one step of any kind, with all looks -/
def oneG (st : SharedT → Thread → Option (SharedT × Thread)) (n0 : Nat) (ann : Option Value) (on : SharedT → Thread → Option SharedT) (s : SharedT) (t : Thread) : Option SharedT :=
  match through t with
  | true => some s
  | false => match stepOk n0 ann t with
    | false => none
    | true => match st s t with
      | some (s', t') => frS s' fun s' => on s' t'
      | none => none
/-- what a frame keeps of a call -/
def keptBy (called code : Code) (lv : List Value) : List Value :=
  match called, code with
  | .builtin _ x, _ => unmarked x.refs
  | .call g x, .builtin _ _ => unmarked (if lv.contains borrowed then x.refs else g :: x.refs)
  | .call g x, .call _ _ => unmarked (if lv.contains borrowed then x.refs else g :: x.refs)
  | _, _ => []
/-- one step; on: what follows it -/
def oneH (st : SharedT → Thread → Option (SharedT × Thread)) (den : Code → Sem Fin) (p : Program) (w : World) (n0 : Nat) (ann : Option Value) (on : SharedT → Thread → Option SharedT) : SharedT → Thread → Option SharedT
  | ⟨T, n, life, gens, drawn, toks, os⟩, ⟨cur, code, pos, stack⟩ => match cur with
    | .rule _ k => on ⟨T, n, life, gens, drawn, toks, os⟩ ⟨k (), code, pos, stack⟩
    | .at q k => on ⟨T, n, life, gens, drawn, toks, os⟩ ⟨k (), code, q, stack⟩
    | .point _ k => on ⟨T, n, life, gens, drawn, toks, os⟩ ⟨k (), code, pos, stack⟩
    | .ask k => on ⟨T, n, life, gens, drawn, toks, os⟩ ⟨k ⟨p, w.params⟩, code, pos, stack⟩
    | .fresh k => frNat (toks + 1) fun m => on ⟨T, n, life, gens, drawn, m, os⟩ ⟨k toks, code, pos, stack⟩
    | .load a _ k => match Nat.blt a n with
      | true => match T.get a with
        | some o => match alive o with
          | some u => on ⟨T, n, life, gens, drawn, toks, os⟩ ⟨k u, code, pos, stack⟩
          | none => none
        | none => none
      | false => none
    | .alloc o k => match ((T.ins n o).get n).isSome with
      | true => frNat (n + 1) fun m => on ⟨T.ins n o, m, life, gens, drawn, toks, os⟩ ⟨k n, code, pos, stack⟩
      | false => none
    | .call c h g l k => on ⟨T, n, life, gens, drawn, toks, os⟩ ⟨den c, c, pos, .ret k h g l code pos (keptBy c code l) :: stack⟩
    | .pure (.done f) => match stack with
      | .ret k _ _ _ c p _ :: rest => on ⟨T, n, life, gens, drawn, toks, os⟩ ⟨k (.ok f), c, p, rest⟩
      | [] => some ⟨T, n, life, gens, drawn, toks, os⟩
      | .gen a k l c p :: rest => oneG st n0 ann on ⟨T, n, life, gens, drawn, toks, os⟩ ⟨.pure (.done f), code, pos, .gen a k l c p :: rest⟩
    | .update a _ f k => match Nat.ble n0 a || a == mainNs || a == cStatics || ann == some (.ref a) with
      | true => match Nat.blt a n with
        | true => match T.get a with
          | some o => match alive o with
            | some _ => on ⟨T.set a f, n, life, gens, drawn, toks, os⟩ ⟨k (), code, pos, stack⟩
            | none => none
          | none => none
        | false => none
      | false => none
    | c => oneG st n0 ann on ⟨T, n, life, gens, drawn, toks, os⟩ ⟨c, code, pos, stack⟩
def goH (st : SharedT → Thread → Option (SharedT × Thread)) (den : Code → Sem Fin) (p : Program) (w : World) (n0 : Nat) (ann : Option Value) (m : Nat) : SharedT → Thread → Option SharedT :=
  Nat.rec (motive := fun _ => SharedT → Thread → Option SharedT) (fun _ _ => none) (fun _ on s t => oneH st den p w n0 ann on s t) m
theorem goF_one (st : SharedT → Thread → Option (SharedT × Thread)) (n0 : Nat) (ann : Option Value) (m : Nat) (s : SharedT) (t : Thread) : goF st n0 ann (m + 1) s t = oneG st n0 ann (goF st n0 ann m) s t := rfl
theorem oneG_mono {st : SharedT → Thread → Option (SharedT × Thread)} {n0 : Nat} {ann : Option Value} {f g : SharedT → Thread → Option SharedT} (h : ∀ s t r, f s t = some r → g s t = some r) {s : SharedT} {t : Thread} {r : SharedT} (e : oneG st n0 ann f s t = some r) : oneG st n0 ann g s t = some r := by
  unfold oneG at e ⊢
  cases a : through t with
  | true => rw [a] at e; exact e
  | false =>
    rw [a] at e
    cases b : stepOk n0 ann t with
    | false => rw [b] at e; cases e
    | true =>
      rw [b] at e
      cases c : st s t with
      | none => rw [c] at e; cases e
      | some x =>
        rw [c] at e
        obtain ⟨s2, t2⟩ := x
        simp only [frS_eq] at e ⊢
        exact h _ _ _ e
/-- a step that wants no look -/
theorem oneG_plain {den : Code → Sem Fin} {p : Program} {w : World} {n0 : Nat} {ann : Option Value} {g : SharedT → Thread → Option SharedT} {s s2 r : SharedT} {t t2 : Thread} (h1 : through t = false) (h2 : stepOk n0 ann t = true) (h3 : stepT den p w s t = some (s2, t2)) (e : g s2 t2 = some r) :
    oneG (stepT den p w) n0 ann g s t = some r := by
  unfold oneG
  rw [h1, h2, h3]
  simp only [frS_eq]
  exact e
theorem oneH_ok {den : Code → Sem Fin} {p : Program} {w : World} {n0 : Nat} {ann : Option Value} {f g : SharedT → Thread → Option SharedT} (h : ∀ s t r, f s t = some r → g s t = some r) {s : SharedT} {t : Thread} {r : SharedT} (e : oneH (stepT den p w) den p w n0 ann f s t = some r) :
    oneG (stepT den p w) n0 ann g s t = some r := by
  obtain ⟨T, n, life, gens, drawn, toks, os⟩ := s
  obtain ⟨cur, code, pos, stack⟩ := t
  have no : ∀ c : Sem Fin, (∀ x, c ≠ .pure x) → through ⟨c, code, pos, stack⟩ = false := by
    intro c hc
    unfold through
    cases c <;> first | exact Bool.and_false _ | exact absurd rfl (hc _)
  cases cur with
  | rule tag k => exact oneG_plain (no _ fun _ z => nomatch z) rfl rfl (h _ _ _ e)
  | «at» q k => exact oneG_plain (no _ fun _ z => nomatch z) rfl rfl (h _ _ _ e)
  | point l k => exact oneG_plain (no _ fun _ z => nomatch z) rfl rfl (h _ _ _ e)
  | ask k => exact oneG_plain (no _ fun _ z => nomatch z) rfl rfl (h _ _ _ e)
  | fresh k =>
    have e1 : (frNat (toks + 1) fun m => f ⟨T, n, life, gens, drawn, m, os⟩ ⟨k toks, code, pos, stack⟩) = some r := e
    rw [frNat_eq] at e1
    exact oneG_plain (no _ fun _ z => nomatch z) rfl rfl (h _ _ _ e1)
  | load a q k =>
    have e1 : (match Nat.blt a n with
      | true => match T.get a with
        | some o => match alive o with
          | some u => f ⟨T, n, life, gens, drawn, toks, os⟩ ⟨k u, code, pos, stack⟩
          | none => none
        | none => none
      | false => none) = some r := e
    cases a1 : Nat.blt a n with
    | false => rw [a1] at e1; cases e1
    | true =>
      rw [a1] at e1
      cases a2 : T.get a with
      | none => simp only [a2] at e1; cases e1
      | some o =>
        simp only [a2] at e1
        cases a3 : alive o with
        | none => simp only [a3] at e1; cases e1
        | some u =>
          simp only [a3] at e1
          refine oneG_plain (no _ fun _ z => nomatch z) rfl ?_ (h _ _ _ e1)
          simp only [stepT, a1, a2, a3]
  | alloc o k =>
    have e1 : (match ((T.ins n o).get n).isSome with
      | true => frNat (n + 1) fun m => f ⟨T.ins n o, m, life, gens, drawn, toks, os⟩ ⟨k n, code, pos, stack⟩
      | false => none) = some r := e
    cases a1 : ((T.ins n o).get n).isSome with
    | false => rw [a1] at e1; cases e1
    | true =>
      rw [a1] at e1
      simp only [frNat_eq] at e1
      refine oneG_plain (no _ fun _ z => nomatch z) rfl ?_ (h _ _ _ e1)
      simp only [stepT, a1]
  | call c hh g l k => exact oneG_plain (no _ fun _ z => nomatch z) rfl rfl (h _ _ _ e)
  | update a q f k =>
    cases a0 : (Nat.ble n0 a || a == mainNs || a == cStatics || ann == some (.ref a)) with
    | false => simp only [oneH, a0] at e; cases e
    | true =>
      cases a1 : Nat.blt a n with
      | false => simp only [oneH, a0, a1] at e; cases e
      | true =>
        cases a2 : T.get a with
        | none => simp only [oneH, a0, a1, a2] at e; cases e
        | some o =>
          cases a3 : alive o with
          | none => simp only [oneH, a0, a1, a2, a3] at e; cases e
          | some u =>
            simp only [oneH, a0, a1, a2, a3] at e
            refine oneG_plain (no _ fun _ z => nomatch z) ?_ ?_ (h _ _ _ e)
            · show (_ && (Nat.ble n0 a || a == mainNs || a == cStatics || ann == some (.ref a))) = true
              rw [a0]
              rfl
            · simp only [stepT, a1, a2, a3]
  | pure x =>
    cases x with
    | again c => exact oneG_mono h e
    | done f =>
      cases stack with
      | nil => exact e
      | cons fr rest =>
        cases fr with
        | gen a k l c p => exact oneG_mono h e
        | ret k a b l c p kp => exact oneG_plain rfl rfl rfl (h _ _ _ e)
  | _ => exact oneG_mono h e
theorem goH_ok {den : Code → Sem Fin} {p : Program} {w : World} {n0 : Nat} {ann : Option Value} : ∀ (m : Nat) {s : SharedT} {t : Thread} {r : SharedT}, goH (stepT den p w) den p w n0 ann m s t = some r → goF (stepT den p w) n0 ann m s t = some r
  | 0, _, _, _, e => nomatch (show (none : Option SharedT) = some _ from e)
  | m + 1, s, t, r, e => by
    rw [goF_one]
    exact oneH_ok (fun s t r => goH_ok m) e
/-- the state behind the top, from the boot -/
def endH (M : Nat) (p : Program) (w : World) (os : OsState) : Option SharedT := match putAll (boot_heap w.params).objs.toList .nil 0 with
  | some (t, n) => frNat n fun n0 => goH (stepQ (denQ tabQ) p w) (denQ tabQ) p w n0 (bootAnn w) M (bootT w os (t, n0)) (topStub p)
  | none => none
theorem endH_ok {M : Nat} {p : Program} {w : World} {os : OsState} {r : SharedT} (e : endH M p w os = some r) : endF (stepQ (denQ tabQ) p w) M p w os = some r := by
  unfold endH at e
  unfold endF
  rw [← stepQ_eq] at e ⊢
  cases a : putAll (boot_heap w.params).objs.toList .nil 0 with
  | none => rw [a] at e; cases e
  | some x =>
    rw [a] at e
    obtain ⟨t, n⟩ := x
    simp only [frNat_eq] at e ⊢
    exact goH_ok M e
/-- what is seen behind it -/
theorem endH_map {α : Type} {M : Nat} {p : Program} {w : World} {os : OsState} {F : SharedT → α} {v : α} (e : (endH M p w os).map F = some v) : ∃ r, endF (stepQ (denQ tabQ) p w) M p w os = some r ∧ F r = v := by
  obtain ⟨r, h1, h2⟩ := Option.map_eq_some_iff.mp e
  exact ⟨r, endH_ok h1, h2⟩
end KZ
end

section
set_option Elab.async false
set_option linter.all false
set_option maxRecDepth 100000
set_option maxHeartbeats 0
/-! the head: facts by names -/
namespace K27
open PySem L2 KZ

def fn0 : List He.DefD := [⟨("is_integer", none), "is_integer", "is_integer", defArgs (top 2), defBody (top 2), defScope (top 2), [], []⟩, ⟨("is_within", none), "is_within", "is_within", defArgs (top 3), defBody (top 3), defScope (top 3), [], []⟩, ⟨("is_place", none), "is_place", "is_place", defArgs (top 4), defBody (top 4), defScope (top 4), [], []⟩, ⟨("copied", none), "copied", "copied", defArgs (top 6), defBody (top 6), defScope (top 6), [], []⟩, ⟨("nothing", none), "nothing", "nothing", defArgs (top 12), defBody (top 12), defScope (top 12), [], []⟩, ⟨("is_greater", none), "is_greater", "is_greater", defArgs (top 13), defBody (top 13), defScope (top 13), [.bl true], []⟩, ⟨("greatest", none), "greatest", "greatest", defArgs (top 14), defBody (top 14), defScope (top 14), [.bl true], []⟩, ⟨("host_with", none), "host_with", "host_with", defArgs (top 17), defBody (top 17), defScope (top 17), [], []⟩, ⟨("keeping", none), "keeping", "keeping", defArgs (top 18), defBody (top 18), defScope (top 18), [], []⟩, ⟨("_law_well", none), "_law_well", "_law_well", defArgs (top 24), defBody (top 24), defScope (top 24), [], []⟩]
def fn1 : List He.DefD := [⟨("_law_draw", none), "_law_draw", "_law_draw", defArgs (top 25), defBody (top 25), defScope (top 25), [], []⟩, ⟨("_law_one", none), "_law_one", "_law_one", defArgs (top 26), defBody (top 26), defScope (top 26), [], []⟩, ⟨("_law_kept", none), "_law_kept", "_law_kept", defArgs (top 27), defBody (top 27), defScope (top 27), [], []⟩, ⟨("_law_made", none), "_law_made", "_law_made", defArgs (top 28), defBody (top 28), defScope (top 28), [], []⟩, ⟨("_law_stamps_right", none), "_law_stamps_right", "_law_stamps_right", defArgs (top 29), defBody (top 29), defScope (top 29), [], []⟩, ⟨("_law_papers_right", none), "_law_papers_right", "_law_papers_right", defArgs (top 30), defBody (top 30), defScope (top 30), [], []⟩, ⟨("_law_stored", none), "_law_stored", "_law_stored", defArgs (top 31), defBody (top 31), defScope (top 31), [], []⟩, ⟨("_law_answer", none), "_law_answer", "_law_answer", defArgs (top 32), defBody (top 32), defScope (top 32), [], []⟩, ⟨("_law_letter", none), "_law_letter", "_law_letter", defArgs (top 33), defBody (top 33), defScope (top 33), [], []⟩, ⟨("_law_stands", none), "_law_stands", "_law_stands", defArgs (top 34), defBody (top 34), defScope (top 34), [], []⟩]
def fn2 : List He.DefD := [⟨("_law_host_right", none), "_law_host_right", "_law_host_right", defArgs (top 35), defBody (top 35), defScope (top 35), [], []⟩, ⟨("_law_made_asking", none), "_law_made_asking", "_law_made_asking", defArgs (top 36), defBody (top 36), defScope (top 36), [], []⟩, ⟨("_law_askings_right", none), "_law_askings_right", "_law_askings_right", defArgs (top 37), defBody (top 37), defScope (top 37), [], []⟩, ⟨("_law_refused_right", none), "_law_refused_right", "_law_refused_right", defArgs (top 38), defBody (top 38), defScope (top 38), [], []⟩, ⟨("law", none), "law", "law", defArgs (top 39), defBody (top 39), defScope (top 39), [], []⟩, ⟨("BadNumber", some "__init__"), "__init__", "BadNumber.__init__", defArgs (mem 9 0), defBody (mem 9 0), defScope (mem 9 0), [], []⟩, ⟨("Kept", some "__init__"), "__init__", "Kept.__init__", defArgs (mem 11 0), defBody (mem 11 0), defScope (mem 11 0), [], []⟩, ⟨("Kept", some "__eq__"), "__eq__", "Kept.__eq__", defArgs (mem 11 1), defBody (mem 11 1), defScope (mem 11 1), [], []⟩, ⟨("Host", some "__init__"), "__init__", "Host.__init__", defArgs (mem 16 0), defBody (mem 16 0), defScope (mem 16 0), [], []⟩, ⟨("Host", some "kept"), "kept", "Host.kept", defArgs (mem 16 1), defBody (mem 16 1), defScope (mem 16 1), [], []⟩]
def fn3 : List He.DefD := [⟨("Host", some "answered"), "answered", "Host.answered", defArgs (mem 16 2), defBody (mem 16 2), defScope (mem 16 2), [.adr (He.dflAt ("Host", some "answered") 0)], []⟩, ⟨("Host", some "__contains__"), "__contains__", "Host.__contains__", defArgs (mem 16 3), defBody (mem 16 3), defScope (mem 16 3), [], []⟩, ⟨("Host", some "__iter__"), "__iter__", "Host.__iter__", defArgs (mem 16 4), defBody (mem 16 4), defScope (mem 16 4), [], []⟩, ⟨("Host", some "__len__"), "__len__", "Host.__len__", defArgs (mem 16 5), defBody (mem 16 5), defScope (mem 16 5), [], []⟩, ⟨("Host", some "__eq__"), "__eq__", "Host.__eq__", defArgs (mem 16 7), defBody (mem 16 7), defScope (mem 16 7), [], []⟩, ⟨("Letter", some "__init__"), "__init__", "Letter.__init__", defArgs (mem 20 0), defBody (mem 20 0), defScope (mem 20 0), [], []⟩, ⟨("Letter", some "__eq__"), "__eq__", "Letter.__eq__", defArgs (mem 20 1), defBody (mem 20 1), defScope (mem 20 1), [], []⟩, ⟨("Asking", some "__init__"), "__init__", "Asking.__init__", defArgs (mem 22 0), defBody (mem 22 0), defScope (mem 22 0), [], []⟩, ⟨("Asking", some "__eq__"), "__eq__", "Asking.__eq__", defArgs (mem 22 1), defBody (mem 22 1), defScope (mem 22 1), [], []⟩]
def fns : List He.DefD := fn0 ++ fn1 ++ fn2 ++ fn3
def fa0 : List He.Fa := [.glo "is_integer", .glo "is_within", .glo "is_place", .glo "copied", .glo "nothing", .glo "is_greater", .glo "greatest", .glo "host_with", .glo "keeping", .glo "_law_well", .glo "_law_draw", .glo "_law_one", .glo "_law_kept", .glo "_law_made", .glo "_law_stamps_right", .glo "_law_papers_right", .glo "_law_stored", .glo "_law_answer", .glo "_law_letter", .glo "_law_stands", .glo "_law_host_right", .glo "_law_made_asking", .glo "_law_askings_right", .glo "_law_refused_right", .glo "law", .glo "OpenError", .glo "BadNumber", .glo "Kept", .glo "Host", .glo "Letter"]
def fa1 : List He.Fa := [.glo "Asking", .free "isinstance", .free "int", .free "bool", .free "str", .free "len", .free "all", .free "list", .free "tuple", .free "dict", .free "range", .free "max", .free "min", .free "sorted", .free "repr", .free "abs", .free "enumerate", .free "iter", .int "MOST_PLACE" 999999999, .exm "BadNumber" "OpenError" true, .mkr "Kept", .cls "Kept", .noat "Kept" "stamp", .noat "Kept" "put", .noat "Kept" "value", .mkr "Host", .cls "Host", .noat "Host" "place", .noat "Host" "closed", .noat "Host" "_kepts"]
def fa2 : List He.Fa := [.mkr "Letter", .cls "Letter", .noat "Letter" "number", .noat "Letter" "sender", .noat "Letter" "receiver", .noat "Letter" "word", .noat "Letter" "parts", .mkr "Asking", .cls "Asking", .noat "Asking" "ask", .noat "Asking" "word", .noat "Asking" "key", .noat "Asking" "epoch", .noat "Asking" "stage", .noat "Asking" "attempt", .noat "Asking" "kept", .noat "Asking" "noted", .meth "Kept" "__eq__", .meth "Host" "kept", .meth "Host" "answered", .meth "Host" "__contains__", .meth "Host" "__iter__", .meth "Host" "__len__", .meth "Host" "__eq__", .meth "Letter" "__eq__", .meth "Asking" "__eq__"]
def fas : List He.Fa := fa0 ++ fa1 ++ fa2
def nm0 : List Str := ["MOST_PLACE", "is_integer", "is_within", "is_place", "copied", "OpenError", "BadNumber", "Kept", "nothing", "is_greater", "greatest", "Host", "host_with", "keeping", "Letter", "Asking", "_law_well", "_law_draw", "_law_one", "_law_kept", "_law_made", "_law_stamps_right", "_law_papers_right", "_law_stored", "_law_answer", "_law_letter", "_law_stands", "_law_host_right", "_law_made_asking", "_law_askings_right"]
def nm1 : List Str := ["_law_refused_right"]
def nms : List Str := nm0 ++ nm1
def kits (K : PySem.W.Frag) : List (Value × Value × Bool) := [((.ref (He.ga K "BadNumber")), (.ref (He.ga K "BadNumber")), true), ((.ref (He.ga K "Kept")), (.ref (He.ga K "Kept")), true), ((.type "NoneType"), (.ref (He.ga K "Kept")), false), ((.type "bool"), (.ref (He.ga K "Kept")), false), ((.type "int"), (.ref (He.ga K "Kept")), false), ((.type "str"), (.ref (He.ga K "Kept")), false), ((.type "list"), (.ref (He.ga K "Kept")), false), ((.type "tuple"), (.ref (He.ga K "Kept")), false), ((.type "dict"), (.ref (He.ga K "Kept")), false), ((.ref (He.ga K "Kept")), (.type "list"), false), ((.ref (He.ga K "Kept")), (.type "tuple"), false), ((.ref (He.ga K "Kept")), (.type "dict"), false), ((.ref (He.ga K "Host")), (.ref (He.ga K "Host")), true), ((.type "NoneType"), (.ref (He.ga K "Host")), false), ((.type "bool"), (.ref (He.ga K "Host")), false), ((.type "int"), (.ref (He.ga K "Host")), false), ((.type "str"), (.ref (He.ga K "Host")), false), ((.type "list"), (.ref (He.ga K "Host")), false), ((.type "tuple"), (.ref (He.ga K "Host")), false), ((.type "dict"), (.ref (He.ga K "Host")), false), ((.ref (He.ga K "Host")), (.type "list"), false), ((.ref (He.ga K "Host")), (.type "tuple"), false), ((.ref (He.ga K "Host")), (.type "dict"), false), ((.ref (He.ga K "Letter")), (.ref (He.ga K "Letter")), true), ((.type "NoneType"), (.ref (He.ga K "Letter")), false), ((.type "bool"), (.ref (He.ga K "Letter")), false), ((.type "int"), (.ref (He.ga K "Letter")), false), ((.type "str"), (.ref (He.ga K "Letter")), false), ((.type "list"), (.ref (He.ga K "Letter")), false), ((.type "tuple"), (.ref (He.ga K "Letter")), false), ((.type "dict"), (.ref (He.ga K "Letter")), false), ((.ref (He.ga K "Letter")), (.type "list"), false), ((.ref (He.ga K "Letter")), (.type "tuple"), false), ((.ref (He.ga K "Letter")), (.type "dict"), false), ((.ref (He.ga K "Asking")), (.ref (He.ga K "Asking")), true), ((.type "NoneType"), (.ref (He.ga K "Asking")), false), ((.type "bool"), (.ref (He.ga K "Asking")), false), ((.type "int"), (.ref (He.ga K "Asking")), false), ((.type "str"), (.ref (He.ga K "Asking")), false), ((.type "list"), (.ref (He.ga K "Asking")), false), ((.type "tuple"), (.ref (He.ga K "Asking")), false), ((.type "dict"), (.ref (He.ga K "Asking")), false), ((.ref (He.ga K "Asking")), (.type "list"), false), ((.ref (He.ga K "Asking")), (.type "tuple"), false), ((.ref (He.ga K "Asking")), (.type "dict"), false)]
def nfs (K : PySem.W.Frag) : List (Str × Value) := [("Kept", (.ref (He.ga K "Kept"))), ("Host", (.ref (He.ga K "Host"))), ("Host", (.type "dict")), ("Letter", (.ref (He.ga K "Letter"))), ("Letter", (.type "list")), ("Asking", (.ref (He.ga K "Asking"))), ("Asking", (.type "tuple"))]
def kitsB (K : PySem.W.Frag) : Bool := (kits K).all fun x => decide (PySem.W.kitOne K x.1 x.2.1 = some x.2.2)
def nfsB (K : PySem.W.Frag) : Bool := (nfs K).all fun x => PySem.W.notFirst K (He.ga K x.1) x.2
def clsB (K : PySem.W.Frag) (x : Str) : Bool := He.eqO (PySem.W.findIn K (.ref (He.ga K x)) "__class__") (some (some (.builtin "object.__class__"))) && (He.eqO (PySem.W.specialIn K (.builtin "object.__class__") "__get__") (some (some (.builtin "getset_descriptor.__get__"))) && (decide (PySem.W.takesIn K (.builtin "object.__class__") = some true) && (decide (PySem.W.mroIn K (He.ga K x) (.type "object") = some true) && He.eqO (PySem.W.findIn K (.ref (He.ga K x)) "__ne__") (some (some (.builtin "object.__ne__"))))))
/-- the default of answered: no cares -/
def tE (K : PySem.W.Frag) : Addr := He.dflAt ("Host", some "answered") 0 K
def emB (K : PySem.W.Frag) : Bool := match K.lookup (tE K) with
  | some ⟨.type c, _, .seq its _, _⟩ => decide (c = "tuple") && decide (its = #[])
  | _ => false
def exC (K : PySem.W.Frag) : Bool := errI K (He.ga K "BadNumber") ["value"] && (kitsB K && (nfsB K && (clsB K "Kept" && (clsB K "Host" && (clsB K "Letter" && (clsB K "Asking" && emB K))))))
def isSeq (g : Addr → Option Obj) (a : Addr) : Bool := match g a with
  | some ⟨_, _, .seq _ _, _⟩ => true
  | _ => false
def asW (fs cs : List Str) (ms : List (Str × Str)) (g : Addr → Option Obj) : List Addr :=
  let K0 := He.frG g [mainGlobals]
  let nx := fun a => ((g a).map He.refsD).getD []
  (asZ fs cs g ++ (ms.map fun p => let C := He.ga K0 p.1; let l := nx C; let i := He.ma (He.frG g (C :: l)) C p.2; i :: (nx i ++ ((nx i).filter (isSeq g)).flatMap nx)).flatten).eraseDups
abbrev R : PySem.W.OpenRow := PySem.W.OpenLaw.row PySem.Challenge.rw_stayopen_k27_stamps_letters_and_hosts
abbrev tfs : List He.Defn := []
def selF : List Str := (["is_integer", "is_within", "is_place", "copied", "nothing", "is_greater", "greatest", "host_with", "keeping", "_law_well", "_law_draw", "_law_one"] : List Str) ++ (["_law_kept", "_law_made", "_law_stamps_right", "_law_papers_right", "_law_stored", "_law_answer", "_law_letter", "_law_stands", "_law_host_right", "_law_made_asking", "_law_askings_right", "_law_refused_right"] : List Str) ++ (["law"] : List Str)
def selC : List Str := ["OpenError", "BadNumber", "Kept", "Host", "Letter", "Asking"]
abbrev sel : (Addr → Option Obj) → List Addr := asW selF selC [("Kept", "__eq__"), ("Host", "kept"), ("Host", "answered"), ("Host", "__contains__"), ("Host", "__iter__"), ("Host", "__len__"), ("Host", "__eq__"), ("Letter", "__eq__"), ("Asking", "__eq__")]
abbrev hk : PySem.W.Hook := hookY sel fas fns [] tfs exC
def ob (s : PySem.W.SharedT) : He.AlX := obsY sel fas fns [] tfs exC (HandSHeadRun.getT s)
theorem ob_eq (s : PySem.W.SharedT) : ob s = hk.obs s.abs := obsY_eq _ _ _ _ _ _ (HandSHeadRun.getT_eq s)
abbrev Q0 : Program := PySem.W.view R.prog [39]
open PySem.W PySem.Calls PyProof.Rows in
noncomputable abbrev sawL (w : World) (s : PySem.W.SharedT) : Bool := HandSHeadRun.looksF R.prog (boot_heap w.params) s.abs
open PySem.W PySem.Calls PyProof.Rows in
noncomputable abbrev sawS (s : PySem.W.SharedT) := HandSHeadRun.seenQ Q0 nms (importedModules R.prog.main.body) (fun s => xlAt Q0 [] s && recOk R.toRowW.records s) s.abs
theorem look (w : World) (os : OsState) : (endH 20000 R.prog w os).map (sawL w) = some true := by
  kernel_rfl
theorem seen (w : World) (os : OsState) : (endH 20000 R.prog w os).map sawS = some (PySem.W.openGood Q0 nms) := by
  kernel_rfl
theorem obW (w : World) (os : OsState) : (endH 20000 R.prog w os).map ob = some (hk.val w) := by
  kernel_rfl
theorem run (w : World) : HandSHeadRun.RunEq R Q0 hk ob 20000 nms w := by
  intro os
  obtain ⟨r1, h1, e1⟩ := endH_map (look w os)
  obtain ⟨r2, h2, e2⟩ := endH_map (seen w os)
  obtain ⟨r3, h3, e3⟩ := endH_map (obW w os)
  obtain rfl := Option.some.inj (h1.symm.trans h2)
  obtain rfl := Option.some.inj (h1.symm.trans h3)
  rw [h1]
  exact congrArg some (Prod.ext e1 (Prod.ext e2 e3))
end K27
end

section
set_option Elab.async false
set_option linter.all false
set_option maxRecDepth 100000
set_option maxHeartbeats 4000000
/-! the checks -/
namespace K27
open PySem L2 KZ
abbrev sIsInt : Stmt := top 2
abbrev sWithin : Stmt := top 3
abbrev sPlace : Stmt := top 4

theorem Dv.mono {K : PySem.W.Frag} {H H' : Hp} (e : Same H H') {v : V} {d : PyData} (h : Dv K H v d) : Dv K H' v d := by
  have sT : ∀ {a xs}, SqT K H a xs → SqT K H' a xs := fun h => by
    rcases h with (h | ⟨o, h⟩) | h
    · exact .inl (.inl (e _ _ h))
    · exact .inl (.inr ⟨o, e _ _ h⟩)
    · exact .inr h
  have rD : ∀ {a u}, Rd H a u → Rd H' a u := fun h => by
    rcases h with h | ⟨o, h⟩
    · exact .inl (e _ _ h)
    · exact .inr ⟨o, e _ _ h⟩
  refine Dv.rec (motive_1 := fun v d _ => Dv K H' v d) (motive_2 := fun v d _ => Dvs K H' v d) (motive_3 := fun v d _ => Dks K H' v d) .non .bl .int .str ?_ ?_ ?_ .nil ?_ .nil ?_ h
  · intro a xs ds h1 _ i; exact .lst (e.seq h1) i
  · intro a xs ds h1 _ i; exact .tup (sT h1) i
  · intro a xs ds h1 _ i; exact .dic (rD h1) i
  · intro v vs d ds _ _ i j; exact .cons i j
  · intro k v kvs d ps _ _ i j; exact .cons i j
/-- the name of a datum's class -/
def tyN : PyData → String
  | .none => "NoneType" | .bool _ => "bool" | .int _ => "int" | .str _ => "str" | .list _ => "list" | .tuple _ => "tuple" | .dict _ => "dict"
theorem Dv.ty {K : PySem.W.Frag} {H : Hp} {v : V} {d : PyData} (h : Dv K H v d) : TyX K H v (.type (tyN d)) := by
  cases h with
  | non => exact .base .non
  | bl b => exact .base (.bl b)
  | int i => exact .base (.int i)
  | str x => exact .base (.str x)
  | lst hs _ =>
    rcases hs with (q | ⟨o, q⟩) | ⟨o, its, n, q, c, _⟩
    · exact .base (.lst q)
    · exact .base (.frz q)
    · exact .kList q c
  | tup hs _ =>
    rcases hs with (q | ⟨o, q⟩) | ⟨o, its, n, q, c, _⟩
    · exact .base (.tup q)
    · exact .fTuple q
    · exact .kTuple q c
  | dic hs _ =>
    rcases hs with q | ⟨o, q⟩
    · exact .base (.dK q)
    · exact .fDict q
def isT (t : String) : PyData → Bool := fun d => match t, d with
  | "int", .int _ => true
  | "int", .bool _ => true
  | "bool", .bool _ => true
  | "str", .str _ => true
  | "list", .list _ => true
  | "tuple", .tuple _ => true
  | "dict", .dict _ => true
  | _, _ => false
/-- isinstance(x, c) of data, c a built-in class -/
def rIsD (K : PySem.W.Frag) (c : String) : List V → Hp → VK → Prop := fun xs H Q => ∃ (v : V) (d : PyData), xs = [v, .ty c] ∧ Dv K H v d ∧ Q (.bl (isT c d)) H
def clsL : List String := ["int", "bool", "str", "list", "tuple", "dict"]
def isTN (c t : String) : Bool := decide (t = c) || (decide (c = "int") && decide (t = "bool"))
theorem kit_tab : ∀ c ∈ clsL, ∀ t ∈ ["NoneType", "bool", "int", "str", "list", "tuple", "dict"], kitB t c = some (isTN c t) := by decide +kernel
theorem isT_tab : ∀ c ∈ clsL, isTN c "NoneType" = isT c .none ∧ (∀ b, isTN c "bool" = isT c (.bool b)) ∧ (∀ i, isTN c "int" = isT c (.int i)) ∧ (∀ x, isTN c "str" = isT c (.str x)) ∧ (∀ l, isTN c "list" = isT c (.list l)) ∧ (∀ l, isTN c "tuple" = isT c (.tuple l)) ∧ ∀ l, isTN c "dict" = isT c (.dict l) := by
  intro c hc
  simp only [clsL, List.mem_cons, List.not_mem_nil, or_false] at hc
  rcases hc with rfl | rfl | rfl | rfl | rfl | rfl <;> exact ⟨rfl, fun _ => rfl, fun _ => rfl, fun _ => rfl, fun _ => rfl, fun _ => rfl, fun _ => rfl⟩
theorem kit_d {K : PySem.W.Frag} {c : String} (hc : c ∈ clsL) (d : PyData) : PySem.W.kitOne K (.type (tyN d)) (.type c) = some (isT c d) := by
  obtain ⟨h1, h2, h3, h4, h5, h6, h7⟩ := isT_tab c hc
  have k := kit_tab c hc
  refine kit_ty ?_
  cases d with
  | none => rw [← h1]; exact k "NoneType" (by decide)
  | bool b => rw [← h2]; exact k "bool" (by decide)
  | int i => rw [← h3]; exact k "int" (by decide)
  | str x => rw [← h4]; exact k "str" (by decide)
  | list x => rw [← h5]; exact k "list" (by decide)
  | tuple x => rw [← h6]; exact k "tuple" (by decide)
  | dict x => rw [← h7]; exact k "dict" (by decide)
theorem call_isD {X : Cx} {c : String} (hc : c ∈ clsL := by decide) : CallR X (.builtin "isinstance") (rIsD X.K c) := by
  intro pins s σ H xs us Q I r h
  obtain ⟨v, d, rfl, hd, q⟩ := h
  exact call_isi pins s σ H _ us Q I r ⟨v, .ty c, _, _, _, rfl, .ty c, Dv.ty hd, kit_d hc d, q⟩

structure B0 (mg : Str → Option Value) : Prop where
  isi : mg "isinstance" = none
  int : mg "int" = none
  bool : mg "bool" = none
  str : mg "str" = none
  len : mg "len" = none
  all : mg "all" = none
  list : mg "list" = none
  tuple : mg "tuple" = none
  dict : mg "dict" = none
def isInt : PyData → Bool
  | .int _ => true
  | _ => false
def spIsInt (K : PySem.W.Frag) : Sp := fun vs H Q _ => ∃ v d, vs = [v] ∧ Dv K H v d ∧ Q (.bl (isInt d)) H
section
variable {P : Program} {w : World} {K : PySem.W.Frag} {mg : Str → Option Value} {base : Heap}
theorem scIsInt : FnScope ["value"] ["value"] (defScope sIsInt) := ⟨rfl, rfl, rfl, by decide +kernel, rfl, by decide +kernel, by decide +kernel⟩
theorem ok_is_integer {f : Addr} {fd : FuncData} (F : Fun K "is_integer" "is_integer" sIsInt f fd) (T : B0 mg) : FnOk P w K mg base CX0 1 f fd ["value"] (spIsInt K) := by
  refine F.ok scIsInt (fun vs H Q E h => ?_) (fun cdv A outer s H vs Q E hr h => ?_)
  · obtain ⟨v, d, rfl, _⟩ := h
    rfl
  · obtain ⟨v, d, rfl, hd, q⟩ := h
    refine ⟨_, pss_one (ps_ret (pe_and (pe_callB (call_isD (c := "int")) (by rfl) T.isi (by decide +kernel) (pa_cons (pv 0) (pa_cons (pe_bltn (v := .ty "int") (by rfl) T.int (by decide +kernel) rfl) pa_nil)))
      (pe_one (pe_not (pe_callB (call_isD (c := "bool")) (by rfl) T.isi (by decide +kernel) (pa_cons (pv 0) (pa_cons (pe_bltn (v := .ty "bool") (by rfl) T.bool (by decide +kernel) rfl) pa_nil))))))), ?_⟩
    refine ⟨v, rfl, v, d, rfl, hd, _, rfl, ?_⟩
    cases e : isT "int" d with
    | false =>
      refine iteF ?_
      cases d <;> first | exact q | cases e
    | true =>
      refine iteT ⟨v, rfl, v, d, rfl, hd, _, rfl, ?_⟩
      cases d <;> first | exact q | cases e
end
end K27
end

section
set_option Elab.async false
set_option linter.all false
set_option maxRecDepth 100000
set_option maxHeartbeats 4000000
/-! the checks, further -/
namespace K27
open PySem L2 KZ
def within (l m : Int) : PyData → Bool
  | .int i => decide (l ≤ i) && decide (i ≤ m)
  | _ => false
def spWithin (K : PySem.W.Frag) : Sp := fun vs H Q _ => ∃ v d l m, vs = [v, .int l, .int m] ∧ Dv K H v d ∧ Q (.bl (within l m d)) H
def spPlace (K : PySem.W.Frag) : Sp := fun vs H Q _ => ∃ v d, vs = [v] ∧ Dv K H v d ∧ Q (.bl (within 0 999999999 d)) H
theorem yes_go {σ : L2.St} {H : Hp} {A B : Hp → Prop} (h : A H) : tYes σ H (fun b H3 => if b = true then A H3 else B H3) := by
  show (if true = true then A H else B H)
  rw [if_pos rfl]
  exact h
theorem same_new {H : Hp} {p : Addr} {o : HO} (h : H p = none) : Same H (upd H p o) := fun b u e => by
  rw [upd_ne (ne_of_none e h)]
  exact e
theorem iteT' {A B : Prop} (h : A) : if true = true then A else B := by rw [if_pos rfl]; exact h
theorem iteF' {A B : Prop} (h : B) : if false = true then A else B := by rw [if_neg Bool.false_ne_true]; exact h
section
variable {P : Program} {w : World} {K : PySem.W.Frag} {mg : Str → Option Value} {base : Heap} {fI fW : Addr} {dI dW : FuncData}
theorem scWithin : FnScope ["value", "least", "most"] ["value", "least", "most"] (defScope sWithin) := ⟨rfl, rfl, rfl, by decide +kernel, rfl, by decide +kernel, by decide +kernel⟩
theorem ok_within {f : Addr} {fd : FuncData} (F : Fun K "is_within" "is_within" sWithin f fd) (T : B0 mg) (gI : mg "is_integer" = some (.ref fI)) (FI : Fun K "is_integer" "is_integer" sIsInt fI dI) (bI : Binds K dI ["value"] []) : FnOk P w K mg base CX0 2 f fd ["value", "least", "most"] (spWithin K) := by
  have GI : FnOk P w K mg base CX0 1 fI dI ["value"] (spIsInt K) := ok_is_integer FI T
  refine F.ok scWithin (fun vs H Q E h => ?_) (fun cdv A outer s H vs Q E hr h => ?_)
  · obtain ⟨v, d, a, b, rfl, _⟩ := h
    rfl
  · obtain ⟨v, d, a, b, rfl, hd, q⟩ := h
    have hr1 : Room 1 _ := hr.mono (by decide)
    refine ⟨_, (pss_one (ps_ret (pe_and (pe_call GI hr1 (by rfl) gI FI.kp bI .nil pass0 (pa_cons (pv 0) pa_nil)) (pe_one (pe_chain op_le op_le (pv 1) (pv 0) (pv 2)))))), ?_⟩
    refine ⟨v, rfl, v, d, rfl, hd, _, rfl, ?_⟩
    cases d with
    | int i =>
      cases hd
      refine iteT ⟨_, rfl, _, rfl, a, i, rfl, rfl, decide (a ≤ i), rfl, ?_⟩
      rw [show within a b (.int i) = (decide (a ≤ i) && decide (i ≤ b)) from rfl] at q
      cases c : decide (a ≤ i) with
      | true =>
        rw [c] at q
        exact iteT' ⟨_, rfl, i, b, rfl, rfl, q⟩
      | false =>
        rw [c] at q
        exact iteF' q
    | _ => exact iteF q
theorem scPlace : FnScope ["value"] ["value"] (defScope sPlace) := ⟨rfl, rfl, rfl, by decide +kernel, rfl, by decide +kernel, by decide +kernel⟩
theorem ok_place {f : Addr} {fd : FuncData} (F : Fun K "is_place" "is_place" sPlace f fd) (hm : ∃ t, mg "MOST_PLACE" = some (.int 999999999 t)) (gW : mg "is_within" = some (.ref fW)) (GW : FnOk P w K mg base CX0 2 fW dW ["value", "least", "most"] (spWithin K)) (kW : PySem.W.keepIn K (.ref fW) = true) (bW : Binds K dW ["value", "least", "most"] []) :
    FnOk P w K mg base CX0 3 f fd ["value"] (spPlace K) := by
  obtain ⟨t, hm⟩ := hm
  refine F.ok scPlace (fun vs H Q E h => ?_) (fun cdv A outer s H vs Q E hr h => ?_)
  · obtain ⟨v, d, rfl, _⟩ := h
    rfl
  · obtain ⟨v, d, rfl, hd, q⟩ := h
    exact ⟨_, (pss_one (ps_ret (pe_call GW hr (by rfl) gW kW bW .nil pass0 (pa_cons (pv 0) (pa_cons pe_int (pa_cons (pe_glob (v := .int 999999999) (by rfl) hm ⟨_, rfl⟩) pa_nil)))))), v, rfl, v, d, 0, 999999999, rfl, hd, q⟩
end
end K27
end

section
set_option Elab.async false
set_option linter.all false
set_option maxRecDepth 100000
set_option maxHeartbeats 4000000
/-! copied: what it gives stands apart -/
namespace K27
open PySem L2 KZ
abbrev ka : Str := "a"
abbrev sCopied : Stmt := top 6
/-- no dict within -/
def noDi : PyData → Bool
  | .list ds => noDis ds
  | .tuple ds => noDis ds
  | .dict _ => false
  | _ => true
where noDis : List PyData → Bool
  | [] => true
  | d :: r => noDi d && noDis r
/-- what may be copied: so deep -/
def Cp : Nat → PyData → Prop
  | _, .none => True
  | _, .bool _ => True
  | _, .int _ => True
  | _, .str _ => True
  | n + 1, .list ds => ds.length ≤ 2000 ∧ ∀ d ∈ ds, Cp n d
  | n + 1, .tuple ds => ds.length ≤ 2000 ∧ ∀ d ∈ ds, Cp n d
  | n + 1, .dict ps => ∃ d, ps = [(.str "a", d)] ∧ noDi d = true ∧ Cp n d
  | 0, _ => False
def NoFrz (G : Hp) : Prop := ∀ b o kvs, G b ≠ some (.frz o (.dK kvs))
/-- G' holds more than G, and nothing of what H had beside G -/
def Beside (H G G' : Hp) : Prop := ∀ b, H b ≠ none → G b = none → G' b = none
/-- N holds nothing of H -/
def Off (H N : Hp) : Prop := ∀ b, H b ≠ none → N b = none
def Nil : Hp := fun _ => none
/-- both -/
def Uni (A B : Hp) : Hp := fun b => match A b with
  | some o => some o
  | none => B b
theorem uni_l {A B : Hp} : Same A (Uni A B) := fun b o e => by
  unfold Uni
  rw [e]
theorem uni_r {A B : Hp} (h : ∀ b, A b ≠ none → B b = none) : Same B (Uni A B) := fun b o e => by
  unfold Uni
  cases q : A b with
  | none => exact e
  | some o' =>
    have := h b (by rw [q]; exact fun z => nomatch z)
    rw [this] at e
    cases e
theorem uni_same {A B H : Hp} (h1 : Same A H) (h2 : Same B H) : Same (Uni A B) H := fun b o e => by
  unfold Uni at e
  cases q : A b with
  | none =>
    rw [q] at e
    exact h2 _ _ e
  | some o' =>
    rw [q] at e
    exact h1 _ _ (by rw [q]; exact e)
theorem uni_none {A B : Hp} {b : Addr} (h1 : A b = none) (h2 : B b = none) : Uni A B b = none := by
  unfold Uni
  rw [h1]
  exact h2
theorem uni_frz {A B : Hp} (h1 : NoFrz A) (h2 : NoFrz B) : NoFrz (Uni A B) := fun b o kvs e => by
  unfold Uni at e
  cases q : A b with
  | none =>
    rw [q] at e
    exact h2 _ _ _ e
  | some o' =>
    rw [q] at e
    exact h1 _ _ _ (by rw [q]; exact e)
/-- the answer, and all that is of it, stands where nothing of H stood -/
def spCopiedN (n : Nat) (K : PySem.W.Frag) : Sp := fun vs H Q _ => ∃ v d G, vs = [v] ∧ Cp n d ∧ Same G H ∧ NoFrz G ∧ Dv K G v d ∧
  ∀ v' N H', Off H N → NoFrz N → Same N H' → Same H H' → Dv K N v' d → Q v' H'
def spCopied (n : Nat) (K : PySem.W.Frag) : Sp := fun vs H Q _ => ∃ v d G, vs = [v] ∧ Cp n d ∧ Same G H ∧ NoFrz G ∧ Dv K G v d ∧
  ∀ v' G' H', Same G G' → NoFrz G' → Beside H G G' → Same G' H' → Same H H' → Dv K G' v' d → Q v' H'
theorem noFrz_upd {G : Hp} {p : Addr} {o : HO} (h : NoFrz G) (ho : ∀ x u, o ≠ .frz x (.dK u)) : NoFrz (upd G p o) := fun b x u e => by
  by_cases hb : b = p
  · rw [hb, upd_same] at e
    exact ho x u (Option.some.inj e)
  · rw [upd_ne hb] at e
    exact h b x u e
theorem Dvs.len {K : PySem.W.Frag} {H : Hp} : ∀ {vs : List V} {ds : List PyData}, Dvs K H vs ds → vs.length = ds.length
  | _, _, .nil => rfl
  | _, _, .cons _ t => congrArg (· + 1) (Dvs.len t)
theorem Dvs.get {K : PySem.W.Frag} {H : Hp} : ∀ {vs : List V} {ds : List PyData} {i : Nat} {v : V}, Dvs K H vs ds → vs[i]? = some v → ∃ d, ds[i]? = some d ∧ Dv K H v d
  | _, _, i, v, .nil, e => by simp at e
  | _, _, 0, v, .cons h _, e => by
    simp at e
    subst e
    exact ⟨_, rfl, h⟩
  | _, _, i + 1, v, .cons _ t, e => by
    obtain ⟨d, h1, h2⟩ := Dvs.get (i := i) t (by simpa using e)
    exact ⟨d, by simpa using h1, h2⟩
theorem Dvs.snoc {K : PySem.W.Frag} {H : Hp} : ∀ {vs : List V} {ds : List PyData} {v : V} {d : PyData}, Dvs K H vs ds → Dv K H v d → Dvs K H (vs ++ [v]) (ds ++ [d])
  | _, _, _, _, .nil, h => .cons h .nil
  | _, _, _, _, .cons h t, h' => .cons h (Dvs.snoc t h')
theorem Dvs.mono {K : PySem.W.Frag} {H H' : Hp} (e : Same H H') : ∀ {vs : List V} {ds : List PyData}, Dvs K H vs ds → Dvs K H' vs ds
  | _, _, .nil => .nil
  | _, _, .cons h t => .cons (Dv.mono e h) (Dvs.mono e t)
theorem sqT_mono {K : PySem.W.Frag} {H H' : Hp} (e : Same H H') {a : Addr} {xs : List V} (h : SqT K H a xs) : SqT K H' a xs := by
  rcases h with (h | ⟨o, h⟩) | h
  · exact .inl (.inl (e _ _ h))
  · exact .inl (.inr ⟨o, e _ _ h⟩)
  · exact .inr h
theorem dc_it {J : It} {n : Nat} {Gd : Hp → Prop} {Y : Nat → Hp → V → Hp → Prop} (w : Walk J n Gd Y) {g : TG} {tt : TT} {tk tv : TE} {vs : List Nat} {σ : L2.St} {H1 : Hp} {D : Addr} {Qd : Hp → Prop} (Pv : Nat → Hp → Prop) (h0 : Pv 0 (upd H1 D (.dK []))) (hG : ∀ i H, i ≤ n → Pv i H → Gd H)
    (hs : ∀ i x H H', i < n → Pv i H → Y i H x H' → g x (wipe σ vs) H' fun σ2 H2 => wipe σ2 vs = wipe σ vs ∧ tt σ2 H2 fun b H3 =>
      if b = true then tk σ2 H3 fun y H4 => tv σ2 H4 fun z H5 => ∃ kvs k, y = kV k ∧ H5 D = some (.dK kvs) ∧ kvs.length < sizeLine ∧ Pv (i + 1) (upd H5 D (.dK (putK kvs k z))) else Pv (i + 1) H3) (hd : ∀ H, Pv n H → Qd H) :
    ∃ W : Nat → Nat → Hp → Prop, (∃ m, W 0 m (upd H1 D (.dK []))) ∧ ∀ i m H, W i m H →
      (J.stop i H ∧ Qd H) ∨ (J.go i H ∧ ∃ Nx : Hp → Prop, (∀ H', Nx H' → ∃ m', m' < m ∧ W (i + 1) m' H') ∧ ∀ x H', J.yld i H x H' → g x (wipe σ vs) H' fun σ2 H2 => wipe σ2 vs = wipe σ vs ∧ tt σ2 H2 fun b H3 =>
        if b = true then tk σ2 H3 fun y H4 => tv σ2 H4 fun z H5 => ∃ kvs k, y = kV k ∧ H5 D = some (.dK kvs) ∧ kvs.length < sizeLine ∧ Nx (upd H5 D (.dK (putK kvs k z))) else Nx H3) := by
  refine ⟨fun i m H => m = n - i ∧ i ≤ n ∧ Pv i H, ⟨n, by simp, Nat.zero_le _, h0⟩, ?_⟩
  rintro i m H ⟨rfl, hi, p⟩
  have q := hG i H hi p
  by_cases hlt : i < n
  · exact .inr ⟨w.goes i H hlt q, Pv (i + 1), fun H' p' => ⟨n - (i + 1), by omega, rfl, hlt, p'⟩, fun x H' y => hs i x H H' hlt p (w.yields i H x H' hlt q y)⟩
  · have e : i = n := by omega
    subst e
    exact .inl ⟨w.stops H q, hd H p⟩
/-- the state of a copying comprehension behind i items -/
structure CpAt (K : PySem.W.Frag) (H : Hp) (D : Addr) (ds : List PyData) (i : Nat) (H' : Hp) : Prop where
  ex : ∃ (N : Hp) (ys : List V), Off H N ∧ NoFrz N ∧ N D = none ∧ Same N H' ∧ (∀ b o, b ≠ D → H b = some o → H' b = some o) ∧ H' D = some (.lst ys) ∧ Dvs K N ys (ds.take i)
theorem CpAt.start {K : PySem.W.Frag} {H : Hp} {D : Addr} {ds : List PyData} (hD : H D = none) : CpAt K H D ds 0 (upd H D (.lst [])) :=
  ⟨Nil, [], (fun _ _ => rfl), (fun _ _ _ e => nomatch e), rfl, (fun _ _ e => nomatch e), (fun b o hb e => by rw [upd_ne hb]; exact e), upd_same, .nil⟩
/-- one more item copied -/
theorem CpAt.step {K : PySem.W.Frag} {H G H' : Hp} {D : Addr} {ds : List PyData} {i : Nat} {d : PyData} {v : V} (hDn : H D = none) (hG : Same G H) (nfG : NoFrz G) (c : CpAt K H D ds i H') (hd : ds[i]? = some d) (hv : Dv K G v d) {n : Nat} (hc : Cp n d) (hz : ds.length ≤ 2000) {Q : VK}
    (h : ∀ v' H'' ys, H'' D = some (.lst ys) → ys.length < sizeLine → CpAt K H D ds (i + 1) (upd H'' D (.lst (ys ++ [v']))) → Q v' H'') : spCopiedN n K [v] H' Q E0 := by
  obtain ⟨N, ys, off, nf, nD, s2, kp, hDl, dv⟩ := c.ex
  have neD : ∀ b o, H b = some o → b ≠ D := fun b o e z => by
    rw [z, hDn] at e
    cases e
  refine ⟨v, d, G, rfl, hc, fun b o e => kp b o (neD b o (hG _ _ e)) (hG _ _ e), nfG, hv, fun v' N' H'' off' nf' e2 e3 dv' => ?_⟩
  have nD' : N' D = none := off' D (by rw [hDl]; exact fun z => nomatch z)
  have nN : ∀ b, N b ≠ none → N' b = none := fun b z => off' b fun y => by
    cases q : N b with
    | none => exact z q
    | some o =>
      have := s2 _ _ q
      rw [y] at this
      cases this
  have hl : ys.length ≤ 2000 := by
    rw [Dvs.len dv, List.length_take]
    exact Nat.le_trans (Nat.min_le_right _ _) hz
  refine h v' H'' ys (e3 _ _ hDl) (Nat.lt_of_le_of_lt hl (by decide)) ⟨Uni N N', ys ++ [v'], fun b hb => uni_none (off b hb) (off' b fun y => ?_), uni_frz nf nf', uni_none nD nD', fun b o e => ?_, fun b o hb e => ?_, upd_same, ?_⟩
  · cases q : H b with
    | none => exact hb q
    | some o =>
      have := kp b o (neD b o q) q
      rw [y] at this
      cases this
  · have hbD : b ≠ D := fun z => by
      rw [z, uni_none nD nD'] at e
      cases e
    rw [upd_ne hbD]
    exact uni_same (s2.trans e3) e2 _ _ e
  · rw [upd_ne hb]
    exact e3 _ _ (kp b o hb e)
  · rw [List.take_add_one, hd]
    exact Dvs.snoc (Dvs.mono uni_l dv) (Dv.mono (uni_r nN) dv')
theorem off_upd {H N : Hp} {D : Addr} {o : HO} (off : Off H N) (hD : H D = none) : Off H (upd N D o) := fun b z => by
  rw [upd_ne fun e => z (by rw [e]; exact hD)]
  exact off b z
theorem CpAt.list {K : PySem.W.Frag} {H H' : Hp} {D : Addr} {ds : List PyData} {Q : VK} (hD : H D = none) (c : CpAt K H D ds ds.length H')
    (q : ∀ v' N H', Off H N → NoFrz N → Same N H' → Same H H' → Dv K N v' (.list ds) → Q v' H') : Q (.ref D) H' := by
  obtain ⟨N, ys, off, nf, nD, e2, kp, hl, dv⟩ := c.ex
  rw [List.take_length] at dv
  refine q (.ref D) (upd N D (.lst ys)) H' (off_upd off hD) (noFrz_upd nf fun _ _ z => nomatch z) (fun b o e => ?_) (fun b o e => kp b o (fun z => by rw [z, hD] at e; cases e) e) (.lst (SqL.of upd_same) (Dvs.mono (same_new nD) dv))
  by_cases z : b = D
  · rw [z, upd_same] at e
    rw [z, hl]
    exact e
  · rw [upd_ne z] at e
    exact e2 _ _ e
theorem CpAt.tuple {K : PySem.W.Frag} {H H' : Hp} {D : Addr} {ds : List PyData} {Q : VK} (hD : H D = none) (c : CpAt K H D ds ds.length H')
    (q : ∀ v' N H', Off H N → NoFrz N → Same N H' → Same H H' → Dv K N v' (.tuple ds) → Q v' H') :
    tCB (fun xs H Q => ∃ p ys, xs = [.ref p] ∧ ((SqL K H p ys ∧ ∀ l, H l = none → Q (.ref l) (upd H l (.tup ys))) ∨ (SqT K H p ys ∧ Q (.ref p) H))) (fun _ H k => k [.ref D] H) [] H' Q := by
  obtain ⟨N, ys, off, nf, nD, e2, kp, hl, dv⟩ := c.ex
  rw [List.take_length] at dv
  refine ⟨D, ys, rfl, .inl ⟨SqL.of hl, fun l hn => ?_⟩⟩
  have hb : ∀ b o, H b = some o → b ≠ D := fun b o e z => by rw [z, hD] at e; cases e
  have hHl : H l = none := by
    cases q : H l with
    | none => rfl
    | some o =>
      have := kp l o (hb l o q) q
      rw [hn] at this
      cases this
  have gl : N l = none := e2.free hn
  refine q (.ref l) (upd N l (.tup ys)) _ (off_upd off hHl) (noFrz_upd nf fun _ _ z => nomatch z) (fun b o e => ?_) (fun b o e => ?_) (.tup (.inl (.inl upd_same)) (Dvs.mono (same_new gl) dv))
  · by_cases z : b = l
    · rw [z, upd_same] at e ⊢
      exact e
    · rw [upd_ne z] at e ⊢
      exact e2 _ _ e
  · rw [upd_ne fun z => by rw [z, hHl] at e; cases e]
    exact kp b o (hb b o e) e
theorem Dv.minus {K : PySem.W.Frag} {G : Hp} {a : Addr} {kvs : List (Key × V)} (ga : G a = some (.dK kvs)) {v : V} {d : PyData} (h : Dv K G v d) : noDi d = true → Dv K (fun b => if b = a then none else G b) v d := by
  have st : ∀ {b : Addr} {o : HO}, (∀ u, o ≠ .dK u) → G b = some o → (fun b => if b = a then none else G b) b = some o := fun {b o} ne e => by
    dsimp only
    rw [if_neg fun z => by rw [z, ga] at e; exact ne _ (Option.some.inj e).symm]
    exact e
  refine Dv.rec (motive_1 := fun v d _ => noDi d = true → Dv K (fun b => if b = a then none else G b) v d) (motive_2 := fun vs ds _ => noDi.noDis ds = true → Dvs K (fun b => if b = a then none else G b) vs ds) (motive_3 := fun _ _ _ => True) (fun _ => .non) (fun b _ => .bl b) (fun i _ => .int i) (fun x _ => .str x) ?_ ?_ ?_ (fun _ => .nil) ?_ trivial (fun _ _ _ _ => trivial) h
  · intro b xs ds h1 _ ih z
    refine .lst ?_ (ih z)
    rcases h1 with (q | ⟨o, q⟩) | q
    · exact .inl (.inl (st (fun _ y => nomatch y) q))
    · exact .inl (.inr ⟨o, st (fun _ y => nomatch y) q⟩)
    · exact .inr q
  · intro b xs ds h1 _ ih z
    refine .tup ?_ (ih z)
    rcases h1 with (q | ⟨o, q⟩) | q
    · exact .inl (.inl (st (fun _ y => nomatch y) q))
    · exact .inl (.inr ⟨o, st (fun _ y => nomatch y) q⟩)
    · exact .inr q
  · intro b kvs ps _ _ _ z
    cases z
  · intro v vs d ds _ _ ih1 ih2 z
    have z2 : (noDi d && noDi.noDis ds) = true := z
    rw [Bool.and_eq_true] at z2
    exact .cons (ih1 z2.1) (ih2 z2.2)
theorem dks_a {K : PySem.W.Frag} {H : Hp} {kvs : List (Key × V)} {d : PyData} (h : Dks K H kvs [(.str "a", d)]) : ∃ l, kvs = [(Sum.inr ka, l)] ∧ Dv K H l d := by
  generalize hp : [(PyData.str "a", d)] = ps at h
  cases h with
  | nil => cases hp
  | @cons k v kvs d' ps h1 h2 =>
    injection hp with e1 e2
    injection e1 with e3 e4
    subst e4
    subst e2
    cases h2
    cases k with
    | inl i => cases e3
    | inr x =>
      injection e3 with e5
      subst e5
      exact ⟨v, rfl, h1⟩
def flD : PyData → Bool
  | .none => true
  | .bool _ => true
  | .int _ => true
  | .str _ => true
  | _ => false
theorem dvNil {K : PySem.W.Frag} {G : Hp} {v : V} {d : PyData} (h : flD d = true) (hd : Dv K G v d) : Dv K Nil v d := by
  cases hd <;> first | exact .non | exact .bl _ | exact .int _ | exact .str _ | cases h
section
variable {P : Program} {w : World} {K : PySem.W.Frag} {mg : Str → Option Value} {base : Heap}
theorem scCopied : FnScope ["value", "part", "key"] ["value"] (defScope sCopied) := ⟨rfl, rfl, rfl, by decide +kernel, rfl, by decide +kernel, by decide +kernel⟩
theorem ok_copiedN {f : Addr} {fd : FuncData} (F : Fun K "copied" "copied" sCopied f fd) (T : B0 mg) (hm : mg "copied" = some (.ref f)) (b : Binds K fd ["value"] []) : ∀ n, FnOk P w K mg base CX0 (n + 1) f fd ["value"] (spCopiedN n K) := by
  intro n
  induction n with
  | zero =>
    refine F.ok scCopied (fun vs H Q E h => ?_) (fun cdv A outer s H vs Q E hr h => ?_)
    · obtain ⟨v, d, G, rfl, _⟩ := h
      rfl
    · obtain ⟨v, d, G, rfl, hc, s1, nf, hd, q⟩ := h
      have tst : ∀ c : String, c ∈ clsL → isT c d = true → c = "int" ∨ c = "bool" ∨ c = "str" := fun c hc' e => by
        simp only [clsL, List.mem_cons, List.not_mem_nil, or_false] at hc'
        rcases hc' with rfl | rfl | rfl | rfl | rfl | rfl <;> cases d <;> simp_all [isT, Cp]
      refine ⟨_, pss_cons (ps_if (pt_val (pe_callB (call_isD (c := "list")) (by rfl) T.isi (by decide +kernel) (pa_cons (pv 0) (pa_cons (pe_bltn (v := .ty "list") (by rfl) T.list (by decide +kernel) rfl) pa_nil)))) (pss_one ps_never) pss_nil)
        (pss_cons (ps_if (pt_val (pe_callB (call_isD (c := "tuple")) (by rfl) T.isi (by decide +kernel) (pa_cons (pv 0) (pa_cons (pe_bltn (v := .ty "tuple") (by rfl) T.tuple (by decide +kernel) rfl) pa_nil)))) (pss_one ps_never) pss_nil)
        (pss_cons (ps_if (pt_val (pe_callB (call_isD (c := "dict")) (by rfl) T.isi (by decide +kernel) (pa_cons (pv 0) (pa_cons (pe_bltn (v := .ty "dict") (by rfl) T.dict (by decide +kernel) rfl) pa_nil)))) (pss_one ps_never) pss_nil)
        (pss_one (ps_ret (pv 0))))), ?_⟩
      have no : ∀ c : String, c ∈ ["list", "tuple", "dict"] → isT c d = false := fun c hc' => by
        simp only [List.mem_cons, List.not_mem_nil, or_false] at hc'
        rcases hc' with rfl | rfl | rfl <;> cases d <;> simp_all [isT, Cp]
      refine ⟨v, rfl, v, d, rfl, Dv.mono s1 hd, _, rfl, ?_⟩
      rw [no "list" (by simp)]
      refine iteF ⟨v, rfl, v, d, rfl, Dv.mono s1 hd, _, rfl, ?_⟩
      rw [no "tuple" (by simp)]
      refine iteF ⟨v, rfl, v, d, rfl, Dv.mono s1 hd, _, rfl, ?_⟩
      rw [no "dict" (by simp)]
      exact iteF ⟨v, rfl, q v Nil H (fun _ _ => rfl) (fun _ _ _ e => nomatch e) (fun _ _ e => nomatch e) (Same.refl H) (dvNil (by cases d <;> first | rfl | exact absurd hc (by simp [Cp])) hd)⟩
  | succ n ih =>
    refine F.ok scCopied (fun vs H Q E h => ?_) (fun cdv A outer s H vs Q E hr h => ?_)
    · obtain ⟨v, d, G, rfl, _⟩ := h
      rfl
    · obtain ⟨v, d, G, rfl, hc, s1, nf, hd, q⟩ := h
      have hu := hu_of hr
      refine ⟨_, pss_cons (ps_if (pt_val (pe_callB (call_isD (c := "list")) (by rfl) T.isi (by decide +kernel) (pa_cons (pv 0) (pa_cons (pe_bltn (v := .ty "list") (by rfl) T.list (by decide +kernel) rfl) pa_nil))))
          (pss_one (ps_ret (pe_lc (own := [("part", 1)]) (g := gName 1) (tt := tYes) (by rfl) scCopied.nd (pi_list (pv 0)) (blkOk_by (own := [("part", 1)]) (N := ["value", "part", "key"]) (sc := defScope sCopied) (by decide +kernel))
            (fun _ _ _ _ _ => pg_name (i := 1) scCopied.nd rfl (Or.inl rfl)) (fun _ _ _ _ _ => pts_nil) (fun _ _ _ _ _ => pe_call ih hr (by rfl) hm F.kp b .nil pass0 (pa_cons (pv 1) pa_nil))))) pss_nil)
        (pss_cons (ps_if (pt_val (pe_callB (call_isD (c := "tuple")) (by rfl) T.isi (by decide +kernel) (pa_cons (pv 0) (pa_cons (pe_bltn (v := .ty "tuple") (by rfl) T.tuple (by decide +kernel) rfl) pa_nil))))
          (pss_one (ps_ret (pe_callTy call_tuple_of (by rfl) T.tuple (by decide +kernel) (pa_cons (pe_lc (own := [("part", 1)]) (g := gName 1) (tt := tYes) (by rfl) scCopied.nd (pi_tup (pv 0)) (blkOk_by (own := [("part", 1)]) (N := ["value", "part", "key"]) (sc := defScope sCopied) (by decide +kernel))
            (fun _ _ _ _ _ => pg_name (i := 1) scCopied.nd rfl (Or.inl rfl)) (fun _ _ _ _ _ => pts_nil) (fun _ _ _ _ _ => pe_call ih hr (by rfl) hm F.kp b .nil pass0 (pa_cons (pv 1) pa_nil))) pa_nil)))) pss_nil)
        (pss_cons (ps_if (pt_val (pe_callB (call_isD (c := "dict")) (by rfl) T.isi (by decide +kernel) (pa_cons (pv 0) (pa_cons (pe_bltn (v := .ty "dict") (by rfl) T.dict (by decide +kernel) rfl) pa_nil))))
          (pss_one (ps_ret (pe_lock (pe_dc (own := [("key", 2)]) (g := gName 2) (tt := tYes) (by rfl) scCopied.nd (pi_keys (pv 0)) (blkOk_by (own := [("key", 2)]) (N := ["value", "part", "key"]) (sc := defScope sCopied) (by decide +kernel))
            (fun _ _ _ _ _ => pg_name (i := 2) scCopied.nd rfl (Or.inl rfl)) (fun _ _ _ _ _ => pts_nil) (fun _ _ _ _ _ => pv 2) (fun _ _ _ _ _ => pe_call ih hr (by rfl) hm F.kp b .nil pass0 (pa_cons (pe_dget hu (pv 0) (pv 2) (fun _ _ => rfl)) pa_nil)))))) pss_nil)
        (pss_one (ps_ret (pv 0))))), ?_⟩
      have hd' := Dv.mono s1 hd
      refine ⟨v, rfl, v, d, rfl, hd', _, rfl, ?_⟩
      cases d with
      | list ds =>
        refine iteT ?_
        obtain ⟨hz, hcs⟩ := hc
        cases hd with
        | @lst a xs _ hs ha =>
          refine ⟨_, rfl, a, rfl, ⟨xs, s1.seq hs⟩, fun D hD => lc_list (K := K) (a := a) (xs := xs) (CpAt K H D ds) (CpAt.start hD) (fun i H' _ c => ?_) (fun i x H' hi c => ⟨rfl, yes_go ?_⟩) (fun H' c => ?_)⟩
          · obtain ⟨_, _, _, _, _, _, kp, _⟩ := c.ex
            exact Same.seq (fun b o e => kp b o (fun z => by rw [z, hD] at e; cases e) e) (s1.seq hs)
          · obtain ⟨d, hdi, hv⟩ := Dvs.get ha hi
            refine ⟨x, rfl, c.step hD s1 nf hdi hv (hcs d (List.mem_of_getElem? hdi)) hz fun v' H'' ys e1 e2 c' => ⟨ys, e1, e2, c'⟩⟩
          · rw [Dvs.len ha] at c
            exact CpAt.list hD c q
      | tuple ds =>
        refine iteF ⟨v, rfl, v, _, rfl, hd', _, rfl, ?_⟩
        refine iteT ?_
        obtain ⟨hz, hcs⟩ := hc
        cases hd with
        | @tup a xs _ hs ha =>
          refine ⟨_, rfl, a, rfl, ⟨xs, sqT_mono s1 hs⟩, fun D hD => lc_tup (K := K) (a := a) (xs := xs) (CpAt K H D ds) (CpAt.start hD) (fun i H' _ c => ?_) (fun i x H' hi c => ⟨rfl, yes_go ?_⟩) (fun H' c => ?_)⟩
          · obtain ⟨_, _, _, _, _, _, kp, _⟩ := c.ex
            exact sqT_mono (fun b o e => kp b o (fun z => by rw [z, hD] at e; cases e) e) (sqT_mono s1 hs)
          · obtain ⟨d, hdi, hv⟩ := Dvs.get ha hi
            refine ⟨x, rfl, c.step hD s1 nf hdi hv (hcs d (List.mem_of_getElem? hdi)) hz fun v' H'' ys e1 e2 c' => ⟨ys, e1, e2, c'⟩⟩
          · rw [Dvs.len ha] at c
            exact CpAt.tuple hD c q
      | dict ps =>
        refine iteF ⟨v, rfl, v, _, rfl, hd', _, rfl, ?_⟩
        refine iteF ⟨v, rfl, v, _, rfl, hd', _, rfl, ?_⟩
        refine iteT ?_
        obtain ⟨d', rfl, nd', cp'⟩ := hc
        cases hd with
        | @dic a kvs _ hs ha =>
          obtain ⟨l, rfl, hl⟩ := dks_a ha
          have gA : G a = some (.dK [(Sum.inr ka, l)]) := by
            rcases hs with z | ⟨o, z⟩
            · exact z
            · exact absurd z (nf _ _ _)
          have hH := s1 _ _ gA
          refine ⟨a, _, hH, True.intro, fun od => ⟨_, rfl, a, od, rfl, .inl ⟨_, upd_same, fun D hD => ?_⟩⟩⟩
          have hDa : D ≠ a := fun z => by
            rw [z, upd_same] at hD
            cases hD
          have hDH : H D = none := by rwa [upd_ne hDa] at hD
          have neD : ∀ b o, H b = some o → b ≠ D := fun b o e z => by rw [z, hDH] at e; cases e
          refine dc_it (walk_keys (d := a) (o := od) (kvs := [(Sum.inr ka, l)])) (fun i H1 => (∀ b o, b ≠ D → b ≠ a → H b = some o → H1 b = some o) ∧ H1 a = some (.frz od (.dK [(Sum.inr ka, l)])) ∧
            ((i = 0 ∧ H1 D = some (.dK [])) ∨ (i = 1 ∧ ∃ v' N, H1 D = some (.dK [(Sum.inr ka, v')]) ∧ Off H N ∧ NoFrz N ∧ N D = none ∧ Same N H1 ∧ Dv K N v' d'))) ?_ (fun i H1 _ c => c.2.1) ?_ ?_
          · exact ⟨fun b o h1 h2 e => by rw [upd_ne h1, upd_ne h2]; exact e, by rw [upd_ne (Ne.symm hDa), upd_same], .inl ⟨rfl, upd_same⟩⟩
          · rintro i x H1 H2 hi ⟨c1, c2, c3⟩ ⟨rfl, k, vv, hk, rfl⟩
            have i0 : i = 0 := by
              have : i < 1 := hi
              omega
            subst i0
            cases hk
            have c4 : H2 D = some (.dK []) := by
              rcases c3 with c3 | ⟨c3, _⟩
              · exact c3.2
              · cases c3
            refine ⟨rfl, yes_go ?_⟩
            refine ⟨_, rfl, .ref a, rfl, _, rfl, a, _, rfl, .inl ⟨[(Sum.inr ka, l)], (Sum.inr ka : Key), .inr ⟨od, c2⟩, rfl, rfl⟩, ?_⟩
            refine ⟨l, d', fun b => if b = a then none else G b, rfl, cp', fun b o e => ?_, fun b o kvs e => ?_, Dv.minus gA hl nd', fun v' N H' off nf' e1 e2 dv => ?_⟩
            · dsimp only at e
              by_cases z : b = a
              · rw [if_pos z] at e
                cases e
              · rw [if_neg z] at e
                exact c1 b o (neD b o (s1 _ _ e)) z (s1 _ _ e)
            · dsimp only at e
              by_cases z : b = a
              · rw [if_pos z] at e
                cases e
              · rw [if_neg z] at e
                exact nf _ _ _ e
            · have nD : N D = none := off D (by rw [c4]; exact fun z => nomatch z)
              refine ⟨[], (Sum.inr ka : Key), rfl, e2 _ _ c4, by decide, fun b o h1 h2 e => ?_, ?_, .inr ⟨rfl, v', N, upd_same, fun b z => ?_, nf', nD, fun b o e => ?_, dv⟩⟩
              · rw [upd_ne h1]
                exact e2 _ _ (c1 b o h1 h2 e)
              · rw [upd_ne (Ne.symm hDa)]
                exact e2 _ _ c2
              · cases q : H b with
                | none => exact absurd q z
                | some o =>
                  by_cases y : b = a
                  · exact off b (by rw [y, c2]; exact fun z => nomatch z)
                  · exact off b (by rw [c1 b o (neD b o q) y q]; exact fun z => nomatch z)
              · rw [upd_ne fun z => by rw [z, nD] at e; cases e]
                exact e1 _ _ e
          · rintro H1 ⟨c1, c2, c3⟩
            refine ⟨c2, ?_⟩
            rcases c3 with ⟨c3, _⟩ | ⟨_, v', N, h1, h2, h3, h4, h5, h6⟩
            · cases c3
            · have na : N a = none := h2 a (by rw [hH]; exact fun z => nomatch z)
              refine q (.ref D) (upd N D (.dK [(Sum.inr ka, v')])) _ (off_upd h2 hDH) (noFrz_upd h3 fun _ _ z => nomatch z) (fun b o e => ?_) (fun b o e => ?_) (.dic (.inl upd_same) (.cons (Dv.mono (same_new h4) h6) .nil))
              · by_cases z : b = D
                · rw [z, upd_same] at e
                  rw [z, upd_ne hDa, h1]
                  exact e
                · rw [upd_ne z] at e
                  rw [upd_ne fun y => by rw [y, na] at e; cases e]
                  exact h5 _ _ e
              · by_cases z : b = a
                · rw [z, hH] at e
                  rw [z, upd_same]
                  exact e
                · rw [upd_ne z]
                  exact c1 b o (neD b o e) z e
      | none => exact iteF ⟨v, rfl, v, _, rfl, hd', _, rfl, iteF ⟨v, rfl, v, _, rfl, hd', _, rfl, iteF ⟨v, rfl, q v Nil H (fun _ _ => rfl) (fun _ _ _ e => nomatch e) (fun _ _ e => nomatch e) (Same.refl H) (dvNil rfl hd)⟩⟩⟩
      | bool _ => exact iteF ⟨v, rfl, v, _, rfl, hd', _, rfl, iteF ⟨v, rfl, v, _, rfl, hd', _, rfl, iteF ⟨v, rfl, q v Nil H (fun _ _ => rfl) (fun _ _ _ e => nomatch e) (fun _ _ e => nomatch e) (Same.refl H) (dvNil rfl hd)⟩⟩⟩
      | int _ => exact iteF ⟨v, rfl, v, _, rfl, hd', _, rfl, iteF ⟨v, rfl, v, _, rfl, hd', _, rfl, iteF ⟨v, rfl, q v Nil H (fun _ _ => rfl) (fun _ _ _ e => nomatch e) (fun _ _ e => nomatch e) (Same.refl H) (dvNil rfl hd)⟩⟩⟩
      | str _ => exact iteF ⟨v, rfl, v, _, rfl, hd', _, rfl, iteF ⟨v, rfl, v, _, rfl, hd', _, rfl, iteF ⟨v, rfl, q v Nil H (fun _ _ => rfl) (fun _ _ _ e => nomatch e) (fun _ _ e => nomatch e) (Same.refl H) (dvNil rfl hd)⟩⟩⟩
theorem ok_copied {f : Addr} {fd : FuncData} (F : Fun K "copied" "copied" sCopied f fd) (T : B0 mg) (hm : mg "copied" = some (.ref f)) (b : Binds K fd ["value"] []) (n : Nat) : FnOk P w K mg base CX0 (n + 1) f fd ["value"] (spCopied n K) :=
  (ok_copiedN F T hm b n).imp fun vs H Q E ⟨v, d, G, e, hc, s1, nf, hd, q⟩ => ⟨v, d, G, e, hc, s1, nf, hd, fun v' N H' off nf' e1 e2 dv => by
    have apart : ∀ b, G b ≠ none → N b = none := fun b z => off b fun y => by
      cases q : G b with
      | none => exact z q
      | some o => rw [s1 _ _ q] at y; cases y
    exact q v' (Uni G N) H' uni_l (uni_frz nf nf') (fun b z g => uni_none g (off b z)) (uni_same (s1.trans e2) e1) e2 (Dv.mono (uni_r apart) dv)⟩
end
end K27
end

section
set_option Elab.async false
set_option linter.all false
set_option maxRecDepth 100000
set_option maxHeartbeats 4000000
/-! the errors' __init__ -/
namespace K27
open PySem L2 KZ
/-- what the written part says of an error class: its name, its __init__, its fields -/
structure ErrC (K : PySem.W.Frag) (mg : Str → Option Value) (nm : Str) (C fI : Addr) (fs : List Str) : Prop where
  ox : OexC K C
  ex : ExcT K C
  ini : PySem.W.findIn K (.ref C) "__init__" = some (some (.ref fI))
  ti : PySem.W.typeIn K (.ref fI) = some (.type "function")
  no : ∀ f ∈ fs, PySem.W.findIn K (.ref C) f = some none
  gl : mg nm = some (.ref C)
/-- self.f = copied(x) -/
def spE1 (K : PySem.W.Frag) (C : Addr) (f : Str) : Sp := fun vs H Q _ => ∃ a v d G, vs = [.ref a, v] ∧ Cp 3 d ∧ Same G H ∧ NoFrz G ∧ G a = none ∧ Dv K G v d ∧ H a = some (exo a C none) ∧
  ∀ v' G' dx H', Same G G' → NoFrz G' → Beside H G G' → G' a = none → G' dx = none → H dx = none → dx ≠ a → Same G' H' → (∀ b o, b ≠ a → H b = some o → H' b = some o) → H' a = some (exo a C (some dx)) → H' dx = some (exd dx [(f, v')]) → Dv K G' v' d → Q .non H'
/-- self.f = copied(x); self.g = copied(y) -/
def spE2 (K : PySem.W.Frag) (C : Addr) (f g : Str) : Sp := fun vs H Q _ => ∃ a v u d e G, vs = [.ref a, v, u] ∧ Cp 3 d ∧ Cp 3 e ∧ Same G H ∧ NoFrz G ∧ G a = none ∧ Dv K G v d ∧ Dv K G u e ∧ H a = some (exo a C none) ∧
  ∀ v' u' G' dx H', Same G G' → NoFrz G' → Beside H G G' → G' a = none → G' dx = none → H dx = none → dx ≠ a → Same G' H' → (∀ b o, b ≠ a → H b = some o → H' b = some o) → H' a = some (exo a C (some dx)) → H' dx = some (exd dx [(g, u'), (f, v')]) → Dv K G' v' d → Dv K G' u' e → Q .non H'
section
variable {P : Program} {w : World} {K : PySem.W.Frag} {mg : Str → Option Value} {base : Heap} {fC : Addr} {dC : FuncData}
theorem ok_init1 {C f : Addr} {fd : FuncData} {q x fld : Str} {st : Stmt} {p1 p2 p3 p4 p5 p6 : Pos} (hb : defBody st = [.Assign [.Attribute (.Name "self" p1) fld p2] (.Call (.Name "copied" p3) [.Name x p4] [] p5) p6])
    (S : FnScope ["self", x] ["self", x] (defScope st)) (hs : (defScope st).names.lookup ("self" : Str) = some .local) (hx : (defScope st).names.lookup x = some .local) (hc : (defScope st).names.lookup ("copied" : Str) = some .globalImplicit)
    (hd : (x == ("__debug__" : Str)) = false) (hcd : (x == ("__classdict__" : Str)) = false) (F : Fun K "__init__" q st f fd) (ox : OexC K C) (no : PySem.W.findIn K (.ref C) fld = some none)
    (T : B0 mg) (gC : mg "copied" = some (.ref fC)) (FC : Fun K "copied" "copied" sCopied fC dC) (bC : Binds K dC ["value"] []) : FnOk P w K mg base CX0 5 f fd ["self", x] (spE1 K C fld) := by
  have GC : FnOk P w K mg base CX0 4 fC dC ["value"] (spCopied 3 K) := ok_copied FC T gC bC 3
  refine F.ok S (fun vs H Q E h => ?_) (fun cdv A outer s H vs Q E hr h => ?_)
  · obtain ⟨a, v, d, G, rfl, _⟩ := h
    rfl
  · obtain ⟨a, v, d, G, rfl, hcp, s1, nf, ga, hv, ha, q⟩ := h
    rw [hb]
    refine ⟨_, pss_one (ps_ost (pe_var (i := 0) rfl (.inl hs)) (pe_call GC hr hc gC FC.kp bC .nil pass0 (pa_cons (pe_var (i := 1) rfl (.inl hx) hd hcd) pa_nil))), ?_⟩
    refine ⟨v, rfl, v, d, G, rfl, hcp, s1, nf, hv, fun v' G' H' e1 e2 e3 e4 e5 e6 => ?_⟩
    have ga' : G' a = none := e3 a (by rw [ha]; exact fun z => nomatch z) ga
    refine ⟨_, rfl, a, C, rfl, ox, no, .inl ⟨e5 _ _ ha, fun dx hdx ne => ?_⟩⟩
    have gd : G' dx = none := e4.free hdx
    refine q v' G' dx _ e1 e2 e3 ga' gd (e5.free hdx) ne (fun b o e => ?_) (fun b o hb e => ?_) upd_same (by rw [upd_ne ne, upd_same]) e6
    · rw [upd_ne (ne_of_none e ga'), upd_ne (ne_of_none e gd)]
      exact e4 _ _ e
    · rw [upd_ne hb, upd_ne (ne_of_none (e5 _ _ e) hdx)]
      exact e5 _ _ e
theorem ok_init2 {C f : Addr} {fd : FuncData} {q x y fld gld : Str} {st : Stmt} {p1 p2 p3 p4 p5 p6 q1 q2 q3 q4 q5 q6 : Pos}
    (hb : defBody st = [.Assign [.Attribute (.Name "self" p1) fld p2] (.Call (.Name "copied" p3) [.Name x p4] [] p5) p6, .Assign [.Attribute (.Name "self" q1) gld q2] (.Call (.Name "copied" q3) [.Name y q4] [] q5) q6])
    (S : FnScope ["self", x, y] ["self", x, y] (defScope st)) (hs : (defScope st).names.lookup ("self" : Str) = some .local) (hx : (defScope st).names.lookup x = some .local) (hy : (defScope st).names.lookup y = some .local) (hc : (defScope st).names.lookup ("copied" : Str) = some .globalImplicit)
    (hd : (x == ("__debug__" : Str)) = false) (hcd : (x == ("__classdict__" : Str)) = false) (hd2 : (y == ("__debug__" : Str)) = false) (hcd2 : (y == ("__classdict__" : Str)) = false) (F : Fun K "__init__" q st f fd) (ox : OexC K C)
    (no : PySem.W.findIn K (.ref C) fld = some none) (no2 : PySem.W.findIn K (.ref C) gld = some none)
    (T : B0 mg) (gC : mg "copied" = some (.ref fC)) (FC : Fun K "copied" "copied" sCopied fC dC) (bC : Binds K dC ["value"] []) : FnOk P w K mg base CX0 5 f fd ["self", x, y] (spE2 K C fld gld) := by
  have GC : FnOk P w K mg base CX0 4 fC dC ["value"] (spCopied 3 K) := ok_copied FC T gC bC 3
  refine F.ok S (fun vs H Q E h => ?_) (fun cdv A outer s H vs Q E hr h => ?_)
  · obtain ⟨a, v, u, d, e, G, rfl, _⟩ := h
    rfl
  · obtain ⟨a, v, u, d, e, G, rfl, hcp, hcp2, s1, nf, ga, hv, hu, ha, q⟩ := h
    rw [hb]
    refine ⟨_, pss_cons (ps_ost (pe_var (i := 0) rfl (.inl hs)) (pe_call GC hr hc gC FC.kp bC .nil pass0 (pa_cons (pe_var (i := 1) rfl (.inl hx) hd hcd) pa_nil)))
      (pss_one (ps_ost (pe_var (i := 0) rfl (.inl hs)) (pe_call GC hr hc gC FC.kp bC .nil pass0 (pa_cons (pe_var (i := 2) rfl (.inl hy) hd2 hcd2) pa_nil)))), ?_⟩
    refine ⟨v, rfl, v, d, G, rfl, hcp, s1, nf, hv, fun v' G' H' e1 e2 e3 e4 e5 e6 => ?_⟩
    have ga' : G' a = none := e3 a (by rw [ha]; exact fun z => nomatch z) ga
    refine ⟨_, rfl, a, C, rfl, ox, no, .inl ⟨e5 _ _ ha, fun dx hdx ne => ?_⟩⟩
    have gd : G' dx = none := e4.free hdx
    have s2 : Same G' (upd (upd H' dx (exd dx [(fld, v')])) a (exo a C (some dx))) := fun b o z => by
      rw [upd_ne (ne_of_none z ga'), upd_ne (ne_of_none z gd)]
      exact e4 _ _ z
    refine ⟨u, rfl, u, e, G', rfl, hcp2, s2, e2, Dv.mono e1 hu, fun u' G2 H2 f1 f2 f3 f4 f5 f6 => ?_⟩
    have nn : ∀ b o, H b = some o → (upd (upd H' dx (exd dx [(fld, v')])) a (exo a C (some dx))) b ≠ none := fun b o z => by
      by_cases hba : b = a
      · rw [hba, upd_same]
        exact fun z => nomatch z
      · rw [upd_ne hba, upd_ne (ne_of_none (e5 _ _ z) hdx), e5 _ _ z]
        exact fun z => nomatch z
    have ga2 : G2 a = none := f3 a (by rw [upd_same]; exact fun z => nomatch z) ga'
    have gd2 : G2 dx = none := f3 dx (by rw [upd_ne ne, upd_same]; exact fun z => nomatch z) gd
    have ha2 : H2 a = some (exo a C (some dx)) := f5 _ _ upd_same
    have hd2 : H2 dx = some (exd dx [(fld, v')]) := f5 _ _ (by rw [upd_ne ne, upd_same])
    refine ⟨_, rfl, a, C, rfl, ox, no2, .inr ⟨dx, _, ha2, hd2, (show 1 ≤ 900 by decide), ?_⟩⟩
    refine q v' u' G2 dx _ (e1.trans f1) f2 (fun b z g => ?_) ga2 gd2 (e5.free hdx) ne (fun b o z => ?_) (fun b o hb z => ?_) (by rw [upd_ne (Ne.symm ne)]; exact ha2) upd_same (Dv.mono f1 e6) f6
    · cases y : H b with
      | none => exact absurd y z
      | some o => exact f3 b (nn b o y) (e3 b z g)
    · rw [upd_ne (ne_of_none z gd2)]
      exact f4 _ _ z
    · have hbd : b ≠ dx := ne_of_none (e5 _ _ z) hdx
      rw [upd_ne hbd]
      exact f5 _ _ (by rw [upd_ne hb, upd_ne hbd]; exact e5 _ _ z)
end
end K27
end

section
set_option Elab.async false
set_option linter.all false
set_option maxRecDepth 100000
set_option maxHeartbeats 4000000
/-! errors made of data, as one rule each -/
namespace K27
open PySem L2 KZ
def tUp (ta : TA) : TA := fun σ H Q => ∃ R : List V → Hp → Prop, ta σ H R ∧ ∀ vs H1, R vs H1 → Q vs H1
theorem pa_up {X : Cx} {es : List Expr} {ta : TA} (h : PA X es ta) : PA X es (tUp ta) :=
  ⟨fun pos pins s σ H Q I ⟨R, q, m⟩ => wpAny_mono (h.run pos pins s σ H R I q) (fun us s1 ⟨vs, H1, I1, r, z⟩ => ⟨vs, H1, I1, r, m _ _ z⟩) fun _ _ z => z⟩
theorem pk_up {X : Cx} {es : List Keyword} {ta : TA} (h : PK X es ta) : PK X es (tUp ta) :=
  ⟨fun pos pins s σ H Q I ⟨R, q, m⟩ => wpAny_mono (h.run pos pins s σ H R I q) (fun us s1 ⟨vs, H1, I1, r, z⟩ => ⟨vs, H1, I1, r, m _ _ z⟩) fun _ _ z => z⟩
theorem pe_conv {X : Cx} {e : Expr} {t u : TE} (h : PE X e t) (c : ∀ σ H Q, u σ H Q → t σ H Q) : PE X e u := ⟨fun pins s σ H Q I z => h.run pins s σ H Q I (c _ _ _ z)⟩
/-- at a: an error of the class C, its fields hold the data -/
def EAt (K : PySem.W.Frag) (H : Hp) (a C : Addr) (fds : List (Str × PyData)) : Prop :=
  ∃ dd fs, H a = some (EXO C a (some dd)) ∧ XD H dd fs ∧ ∀ p ∈ fds, ∃ v, fs.lookup p.1 = some v ∧ Dv K H v p.2
theorem XD.mono {H H' : Hp} {dd : Addr} {fs : List (Str × V)} (s : Same H H') (h : XD H dd fs) : XD H' dd fs := h.imp (s _ _) (s _ _)
theorem EAt.mono {K : PySem.W.Frag} {H H' : Hp} {a C : Addr} {fds : List (Str × PyData)} (s : Same H H') (h : EAt K H a C fds) : EAt K H' a C fds := by
  obtain ⟨dd, fs, e1, e2, e3⟩ := h
  exact ⟨dd, fs, s _ _ e1, XD.mono s e2, fun p hp => let ⟨v, l, d⟩ := e3 p hp; ⟨v, l, Dv.mono s d⟩⟩
/-- at a: an error of the class C -/
def IsErr (H : Hp) (a C : Addr) : Prop := ∃ d, H a = some (EXO C a d) ∧ ∀ dd, d = some dd → ∃ fs, XD H dd fs
theorem IsErr.mono {H H' : Hp} {a C : Addr} (s : Same H H') (h : IsErr H a C) : IsErr H' a C := by
  obtain ⟨d, e1, e2⟩ := h
  exact ⟨d, s _ _ e1, fun dd e => let ⟨fs, z⟩ := e2 dd e; ⟨fs, XD.mono s z⟩⟩
theorem EAt.is {K : PySem.W.Frag} {H : Hp} {a C : Addr} {fds : List (Str × PyData)} (h : EAt K H a C fds) : IsErr H a C := by
  obtain ⟨dd, fs, e1, e2, _⟩ := h
  exact ⟨some dd, e1, fun _ z => by cases z; exact ⟨fs, e2⟩⟩
theorem ef_go {K : PySem.W.Frag} {H : Hp} {a C : Addr} {fds : List (Str × PyData)} {n : Str} {d : PyData} {Q : V → Prop} (T : ExcT K C) (no : PySem.W.findIn K (.ref C) n = some none) (h : EAt K H a C fds) (hm : (n, d) ∈ fds) (q : ∀ v, Dv K H v d → Q v) :
    ∃ (a' C' dd : Addr) (fs : List (Str × V)) (v : V), V.ref a = .ref a' ∧ ExcT K C' ∧ PySem.W.findIn K (.ref C') n = some none ∧ H a' = some (EXO C' a' (some dd)) ∧ XD H dd fs ∧ fs.lookup n = some v ∧ Q v := by
  obtain ⟨dd, fs, e1, e2, e3⟩ := h
  obtain ⟨v, l, z⟩ := e3 _ hm
  exact ⟨a, C, dd, fs, v, rfl, T, no, e1, e2, l, q v z⟩
structure Mk1 (P : Program) (w : World) (K : PySem.W.Frag) (mg : Str → Option Value) (base : Heap) (nm : Str) (C : Addr) (x fld : Str) : Prop where
  has : ∃ fI dI, ErrC K mg nm C fI [fld] ∧ FnOk P w K mg base CX0 5 fI dI ["self", x] (spE1 K C fld) ∧ Binds K dI ["self", x] [] ∧ KBinds K dI ["self", x] [x] (fun us ws => us ++ ws.take 1) fun vs zs => vs ++ zs.take 1
structure Mk2 (P : Program) (w : World) (K : PySem.W.Frag) (mg : Str → Option Value) (base : Heap) (nm : Str) (C : Addr) (x y fld gld : Str) : Prop where
  has : ∃ fI dI, ErrC K mg nm C fI [fld, gld] ∧ FnOk P w K mg base CX0 5 fI dI ["self", x, y] (spE2 K C fld gld) ∧ Binds K dI ["self", x, y] [] ∧ KBinds K dI ["self", x, y] [y, x] (fun us ws => us ++ (ws.take 2).reverse) fun vs zs => vs ++ (zs.take 2).reverse
theorem Mk1.facts {P : Program} {w : World} {K : PySem.W.Frag} {mg : Str → Option Value} {base : Heap} {nm x fld : Str} {C : Addr} (M : Mk1 P w K mg base nm C x fld) : ExcT K C ∧ PySem.W.findIn K (.ref C) fld = some none :=
  let ⟨_, _, E, _⟩ := M.has
  ⟨E.ex, E.no _ List.mem_cons_self⟩
theorem Mk2.facts {P : Program} {w : World} {K : PySem.W.Frag} {mg : Str → Option Value} {base : Heap} {nm x y fld gld : Str} {C : Addr} (M : Mk2 P w K mg base nm C x y fld gld) : ExcT K C ∧ PySem.W.findIn K (.ref C) fld = some none ∧ PySem.W.findIn K (.ref C) gld = some none :=
  let ⟨_, _, E, _⟩ := M.has
  ⟨E.ex, E.no _ List.mem_cons_self, E.no _ (List.mem_cons_of_mem _ List.mem_cons_self)⟩
section
variable {K : PySem.W.Frag}
theorem e1_go {C a : Addr} {fld : Str} {v : V} {d : PyData} {G H : Hp} {Q : VK} (cp : Cp 3 d) (s : Same G H) (nf : NoFrz G) (hv : Dv K G v d) (ha : H a = none) (k : ∀ H', Same H H' → EAt K H' a C [(fld, d)] → Q (.ref a) H') :
    spE1 K C fld [.ref a, v] (upd H a (exo a C none)) (fun v H2 => v = .non ∧ ∃ d, H2 a = some (exo a C (some d)) ∧ Q (.ref a) (upd H2 a (EXO C a (some d)))) (fun _ _ _ => False) := by
  refine ⟨a, v, d, G, rfl, cp, s.trans (same_new ha), nf, s.free ha, hv, upd_same, fun v' G' dx H' s1 nf' bs ga gd hdx ne s' kp ea ed dv' => ⟨rfl, dx, ea, k _ (fun b o e => ?_) ⟨dx, [(fld, v')], upd_same, .inl (by rw [upd_ne ne]; exact ed), fun p hp => ?_⟩⟩⟩
  · have hb : b ≠ a := ne_of_none e ha
    rw [upd_ne hb]
    exact kp _ _ hb (by rw [upd_ne hb]; exact e)
  · rw [List.mem_singleton] at hp
    subst hp
    refine ⟨v', by simp, Dv.mono (fun b o e => ?_) dv'⟩
    rw [upd_ne (ne_of_none e ga)]
    exact s' _ _ e
theorem e2_go {C a : Addr} {fld gld : Str} {v u : V} {d e : PyData} {G H : Hp} {Q : VK} (hfg : gld ≠ fld) (cp : Cp 3 d) (cp2 : Cp 3 e) (s : Same G H) (nf : NoFrz G) (hv : Dv K G v d) (hu : Dv K G u e) (ha : H a = none) (k : ∀ H', Same H H' → EAt K H' a C [(fld, d), (gld, e)] → Q (.ref a) H') :
    spE2 K C fld gld [.ref a, v, u] (upd H a (exo a C none)) (fun v H2 => v = .non ∧ ∃ d, H2 a = some (exo a C (some d)) ∧ Q (.ref a) (upd H2 a (EXO C a (some d)))) (fun _ _ _ => False) := by
  refine ⟨a, v, u, d, e, G, rfl, cp, cp2, s.trans (same_new ha), nf, s.free ha, hv, hu, upd_same, fun v' u' G' dx H' s1 nf' bs ga gd hdx ne s' kp ea ed dv' du' => ⟨rfl, dx, ea, k _ (fun b o e => ?_) ⟨dx, [(gld, u'), (fld, v')], upd_same, .inl (by rw [upd_ne ne]; exact ed), fun p hp => ?_⟩⟩⟩
  · have hb : b ≠ a := ne_of_none e ha
    rw [upd_ne hb]
    exact kp _ _ hb (by rw [upd_ne hb]; exact e)
  · have m : Same G' (upd H' a (EXO C a (some dx))) := fun b o e => by
      rw [upd_ne (ne_of_none e ga)]
      exact s' _ _ e
    rcases List.mem_cons.mp hp with z | z
    · subst z
      refine ⟨v', ?_, Dv.mono m dv'⟩
      rw [List.lookup_cons]
      rw [show (fld == gld) = false from by simpa using fun z => hfg z.symm]
      simp
    · rw [List.mem_singleton] at z
      subst z
      exact ⟨u', by simp, Dv.mono m du'⟩
end
def tMk1 (K : PySem.W.Frag) (C : Addr) (fld : Str) (ta : TA) : TE := fun σ H Q => ta σ H fun vs H1 => ∃ v d G, vs = [v] ∧ Cp 3 d ∧ Same G H1 ∧ NoFrz G ∧ Dv K G v d ∧ ∀ a H', H1 a = none → Same H1 H' → EAt K H' a C [(fld, d)] → Q (.ref a) H'
def tMk2 (K : PySem.W.Frag) (C : Addr) (fld gld : Str) (ta : TA) : TE := fun σ H Q => ta σ H fun vs H1 => ∃ v u d e G, vs = [v, u] ∧ Cp 3 d ∧ Cp 3 e ∧ Same G H1 ∧ NoFrz G ∧ Dv K G v d ∧ Dv K G u e ∧ ∀ a H', H1 a = none → Same H1 H' → EAt K H' a C [(fld, d), (gld, e)] → Q (.ref a) H'
/-- the keywords the other way round -/
def tMkK2 (K : PySem.W.Frag) (C : Addr) (fld gld : Str) (ta : TA) : TE := fun σ H Q => ta σ H fun vs H1 => ∃ v u d e G, vs = [u, v] ∧ Cp 3 d ∧ Cp 3 e ∧ Same G H1 ∧ NoFrz G ∧ Dv K G v d ∧ Dv K G u e ∧ ∀ a H', H1 a = none → Same H1 H' → EAt K H' a C [(fld, d), (gld, e)] → Q (.ref a) H'
section
variable {X : Cx} {C : Addr} {nm x y fld gld : Str} {e e2 : Expr} {es : List Expr} {kws : List Keyword} {ta : TA} {p pos : Pos}
theorem pe_efK {te : TE} {n : Str} (K : PySem.W.Frag) (he : PE X e te) (hK : X.K = K := by rfl) (hb : attributeBase e n X.env (eval e X.env) = eval e X.env := by rfl) : PE X (.Attribute e n pos) (tEf K n te) := by
  subst hK
  exact pe_ef he hb
theorem pe_mk1 (M : Mk1 X.prog X.w X.K X.mg X.base nm C x fld) (hr : Room 6 X.A) (hg : Gl X nm) (ha : PA X [e] ta) (hdb : (nm == ("__debug__" : Str)) = false := by decide) (he : starEach [e] X.env = (false, eval e X.env) :: starEach [] X.env := by rfl) :
    PE X (.Call (.Name nm p) [e] [] pos) (tMk1 X.K C fld ta) := by
  obtain ⟨fI, dI, E, F, b, _⟩ := M.has
  refine pe_conv (pe_oex E.ox E.ini E.ti F hr b .nil pass0 hg E.gl (pa_up ha) hdb he) fun σ H Q h => ⟨_, h, ?_⟩
  rintro vs H1 ⟨v, d, G, rfl, cp, s, nf, hv, k⟩
  exact ⟨(show 1 ≤ 1000 by decide), fun a ha => e1_go cp s nf hv ha (k a · ha)⟩
theorem pe_mkK1 (M : Mk1 X.prog X.w X.K X.mg X.base nm C x fld) (hr : Room 6 X.A) (hg : Gl X nm) (hkw : PK X kws ta) (hall : (backToKw pos (keywordEach kws X.env)).all (·.1.isSome) = true := by rfl) (hks : (backToKw pos (keywordEach kws X.env)).filterMap (·.1) = [x] := by rfl)
    (hdb : (nm == ("__debug__" : Str)) = false := by decide) (hpl : ((backTo pos (starEach [] X.env)).any (·.1) || (backToKw pos (keywordEach kws X.env)).any (·.1.isNone)) = false := by rfl) : PE X (.Call (.Name nm p) [] kws pos) (tMk1 X.K C fld ta) := by
  obtain ⟨fI, dI, E, F, _, b⟩ := M.has
  refine pe_conv (pe_oexK0 E.ox E.ini E.ti F hr b pass0 hg E.gl (pk_up hkw) hall hks hdb hpl) fun σ H Q h => ⟨_, h, ?_⟩
  rintro vs H1 ⟨v, d, G, rfl, cp, s, nf, hv, k⟩
  exact fun a ha => e1_go cp s nf hv ha (k a · ha)
theorem pe_mk2 (hfg : gld ≠ fld) (M : Mk2 X.prog X.w X.K X.mg X.base nm C x y fld gld) (hr : Room 6 X.A) (hg : Gl X nm) (ha : PA X [e, e2] ta) (hdb : (nm == ("__debug__" : Str)) = false := by decide) (he : starEach [e, e2] X.env = (false, eval e X.env) :: starEach [e2] X.env := by rfl) (hpl : (backTo pos (starEach [e2] X.env)).any (·.1) = false := by rfl) :
    PE X (.Call (.Name nm p) [e, e2] [] pos) (tMk2 X.K C fld gld ta) := by
  obtain ⟨fI, dI, E, F, b, _⟩ := M.has
  refine pe_conv (pe_oex E.ox E.ini E.ti F hr b .nil pass0 hg E.gl (pa_up ha) hdb he hpl) fun σ H Q h => ⟨_, h, ?_⟩
  rintro vs H1 ⟨v, u, d, e, G, rfl, cp, cp2, s, nf, hv, hu, k⟩
  exact ⟨(show 2 ≤ 1000 by decide), fun a ha => e2_go hfg cp cp2 s nf hv hu ha (k a · ha)⟩
theorem pe_mkK2 (hfg : gld ≠ fld) (M : Mk2 X.prog X.w X.K X.mg X.base nm C x y fld gld) (hr : Room 6 X.A) (hg : Gl X nm) (hkw : PK X kws ta) (hall : (backToKw pos (keywordEach kws X.env)).all (·.1.isSome) = true := by rfl) (hks : (backToKw pos (keywordEach kws X.env)).filterMap (·.1) = [y, x] := by rfl)
    (hdb : (nm == ("__debug__" : Str)) = false := by decide) (hpl : ((backTo pos (starEach [] X.env)).any (·.1) || (backToKw pos (keywordEach kws X.env)).any (·.1.isNone)) = false := by rfl) : PE X (.Call (.Name nm p) [] kws pos) (tMkK2 X.K C fld gld ta) := by
  obtain ⟨fI, dI, E, F, _, b⟩ := M.has
  refine pe_conv (pe_oexK0 E.ox E.ini E.ti F hr b pass0 hg E.gl (pk_up hkw) hall hks hdb hpl) fun σ H Q h => ⟨_, h, ?_⟩
  rintro vs H1 ⟨v, u, d, e, G, rfl, cp, cp2, s, nf, hv, hu, k⟩
  exact fun a ha => e2_go hfg cp cp2 s nf hv hu ha (k a · ha)
end
end K27
end

section
set_option Elab.async false
set_option linter.all false
set_option maxRecDepth 100000
set_option maxHeartbeats 4000000
/-! dicts whose keys are None, ints and texts -/
namespace KZ
open PySem PySem.Spec PyProof.Rows L2
abbrev NK := Option Key
def nV : NK → V
  | none => .non
  | some k => kV k
theorem nV_is {P : Program} {w : World} {k : NK} {u : Value} (r : RelV (nV k) u) : (noneKind P w).is k u = true := by
  cases k with
  | none =>
    obtain rfl : u = Value.none := r
    rfl
  | some k => exact kV_is (P := P) (w := w) r
theorem nV_rel {k : NK} {u : Value} (h : nkIs k u = true) : RelV (nV k) u := by
  cases k with
  | none =>
    rw [nk_none h]
    rfl
  | some k => exact relV_key h
/-- the dict at a, its pairs in their order -/
def DN (P : Program) (w : World) (a : Addr) (kvs : List (NK × V)) : HO :=
  .ext fun h => kvs.length ≤ sizeLine ∧ (a == sysModules) = false ∧ ∃ vs, KV kvs vs ∧ h.DictOf (noneKind P w) a vs
section
variable {P : Program} {w : World} {H : Hp} {h : Heap} {a : Addr} {kvs : List (NK × V)} {vs : List (NK × Value)}
theorem DN.mk (z : kvs.length ≤ sizeLine) (hd : (a == sysModules) = false) (rel : KV kvs vs) (dd : h.DictOf (noneKind P w) a vs) : ObjOk P w H h a (DN P w a kvs) := by
  refine ⟨⟨z, hd, vs, rel, dd⟩, ?_, fun h1 h2 ⟨z, hd, vs, rel, dd⟩ st => ⟨z, hd, vs, rel, ?_⟩⟩
  · obtain ⟨o, _, _, ho, _⟩ := dd
    exact ⟨o, ho⟩
  · obtain ⟨o, es, ep, ho, r⟩ := dd
    exact ⟨o, es, ep, st o ho, r⟩
theorem DN.un (ok : ObjOk P w H h a (DN P w a kvs)) : kvs.length ≤ sizeLine ∧ (a == sysModules) = false ∧ ∃ vs, KV kvs vs ∧ h.DictOf (noneKind P w) a vs := ok.1
theorem DN.rd (ok : HOk P w H h) (e : Rd H a (DN P w a kvs)) : kvs.length ≤ sizeLine ∧ (a == sysModules) = false ∧ ∃ vs, KV kvs vs ∧ h.DictOf (noneKind P w) a vs := DN.un (e.ok ok)
theorem DN.mut {P : Program} {w : World} {a : Addr} {kvs : List (NK × V)} : Mut (some (DN P w a kvs)) := True.intro
end
section
variable {X : Cx} {pins : List (Addr × Obj)} {σ : L2.St} {H : Hp} {s : Shared} {a : Addr} {v d : V} {u r : Value} {k : NK} {kvs : List (NK × V)} {A : Around} {E : Value → Shared → Prop}
theorem n_getItem {Q : Value → Shared → Prop} (I : Inv X pins σ H s) (e : Rd H a (DN X.prog X.w a kvs)) (ry : RelV (nV k) u) (l : valV kvs k = some v) (h : ∀ x s', Inv X pins σ H s' → RelV v x → Q x s') :
    wpAny (model X.prog X.w) A (getItem (.ref a) u) Q E s := by
  obtain ⟨_, _, vs, rel, dd⟩ := DN.rd (kvs := kvs) I.hok e
  have rv := rel.val k
  rw [l] at rv
  obtain ⟨x, hx, rx⟩ := RelO.some_of rv
  exact wpAny_getItem_of (nV_is ry) dd.mapOf hx (h x _ (I.tok _) rx)
theorem n_in {Q : Value → Shared → Prop} (I : Inv X pins σ H s) (e : Rd H a (DN X.prog X.w a kvs)) (ry : RelV (nV k) u) (h : ∀ s', Inv X pins σ H s' → Q (.bool (valV kvs k).isSome) s') :
    wpAny (model X.prog X.w) A (compareOp .In u (.ref a)) Q E s := by
  obtain ⟨_, hd, vs, rel, dd⟩ := DN.rd (kvs := kvs) I.hok e
  refine wpAny_in_of (nV_is ry) hd dd.mapOf ?_
  have e2 := (rel.val k).isSome_eq
  rw [← e2]
  exact h _ (I.tok _)
theorem n_get2 {Q : Value → Shared → Prop} (I : Inv X pins σ H s) (e : Rd H a (DN X.prog X.w a kvs)) (ry : RelV (nV k) u) (rd : RelV d r) (h : ∀ x s', Inv X pins σ H s' → RelV ((valV kvs k).getD d) x → Q x s') :
    wpAny (model X.prog X.w) A (call (.builtin "dict.get") [.ref a, u, r]) Q E s := by
  obtain ⟨_, hd, vs, rel, dd⟩ := DN.rd (kvs := kvs) I.hok e
  have m := meets_dict_get_default (noneKind X.prog X.w) a (nV_is ry) hd r
  exact call_meetsIn PySem.F.slot_dict_get dd.typeIs PySem.F.entry_dict_get (PySem.F.args_dict_get_3 _ _ _) m ⟨_, dd.mapOf, h _ _ (I.tok _) ((rel.val k).getD rd)⟩
/-- the dict's object is another one now -/
theorem n_write {h' : Heap} {t' : Nat} {ms : List (NK × V)} {us : List (NK × Value)} (I : Inv X pins σ H s) (mu : Mut (H a)) (sb : Heap.SameBut a s.heap h') (z : ms.length ≤ sizeLine) (hd : (a == sysModules) = false) (rel : KV ms us) (dd : h'.DictOf (noneKind X.prog X.w) a us) :
    Inv X pins σ (upd H a (DN X.prog X.w a ms)) { s with heap := h', toks := t' } := by
  have ob : ∃ q, h'.get? a = some q := by
    obtain ⟨q, _, _, hq, _⟩ := dd
    exact ⟨q, hq⟩
  exact d_write I mu sb ob (DN.mk z hd rel dd)
theorem n_setItem {Q : Unit → Shared → Prop} (I : Inv X pins σ H s) (e : H a = some (DN X.prog X.w a kvs)) (hz : kvs.length < sizeLine) (ry : RelV (nV k) u) (rv : RelV v r)
    (h : ∀ s', Inv X pins σ (upd H a (DN X.prog X.w a (putK kvs k v))) s' → Q () s') : wpAny (model X.prog X.w) A (setItem (.ref a) u r) Q E s := by
  obtain ⟨_, hd, vs, rel, dd⟩ := DN.rd (kvs := kvs) I.hok (.inl e)
  have l1 := length_putK kvs k v
  have l2 : vs.length ≤ sizeLine := by
    rw [← rel.length]
    omega
  have mu : Mut (H a) := by
    rw [e]
    exact DN.mut
  exact wpAny_setItem_pairs (hsz := l2) (nV_is ry) dd fun h' d2 sb => h _ (n_write I mu sb (by omega) hd (rel.put k rv) d2)
theorem n_dictSet {Q : Unit → Shared → Prop} (I : Inv X pins σ H s) (e : H a = some (DN X.prog X.w a kvs)) (hz : kvs.length < sizeLine) (ry : RelV (nV k) u) (rv : RelV v r)
    (h : ∀ s', Inv X pins σ (upd H a (DN X.prog X.w a (putK kvs k v))) s' → Q () s') : wpAny (model X.prog X.w) X.A (dictSet a u r) Q E s := by
  obtain ⟨_, hd, vs, rel, dd⟩ := DN.rd (kvs := kvs) I.hok (.inl e)
  have l1 := length_putK kvs k v
  have l2 : vs.length ≤ sizeLine := by
    rw [← rel.length]
    omega
  have mu : Mut (H a) := by
    rw [e]
    exact DN.mut
  exact wpAny_dictSet_pairs (hsz := l2) (nV_is ry) dd fun h' d2 sb => h _ (n_write I mu sb (by omega) hd (rel.put k rv) d2)
theorem n_kind (I : Inv X pins σ H s) (e : Rd H a (DN X.prog X.w a kvs)) : s.TypeIs (.ref a) "dict" ∧ ∀ b, Value.ref a = .ref b → ∃ ob, s.heap.get? b = some ob ∧ ob.dict = none := by
  obtain ⟨_, _, vs, _, dd⟩ := DN.rd (kvs := kvs) I.hok e
  refine ⟨dd.typeIs, fun b q => ?_⟩
  cases q
  obtain ⟨ob, _, _, h1, h2, _⟩ := dd
  exact ⟨ob, h1, h2.2.1⟩
end
/-! readings -/
def tNNew (X : Cx) : TE := fun _ H Q => ∀ p, H p = none → Q (.ref p) (upd H p (DN X.prog X.w p []))
def tNGet (X : Cx) (td ty : TE) : TE := fun σ H Q => td σ H fun x H1 => ty σ H1 fun y H2 => ∃ a kvs k v, x = .ref a ∧ Rd H2 a (DN X.prog X.w a kvs) ∧ y = nV k ∧ valV kvs k = some v ∧ Q v H2
def tNIn (X : Cx) (ty td : TE) : TE := fun σ H Q => ty σ H fun y H1 => td σ H1 fun x H2 => ∃ a kvs k, x = .ref a ∧ Rd H2 a (DN X.prog X.w a kvs) ∧ y = nV k ∧ Q (.bl (valV kvs k).isSome) H2
def tNGet2 (X : Cx) (td ty tx : TE) : TE := fun σ H Q => td σ H fun x H1 => ∃ a kvs, x = .ref a ∧ Rd H1 a (DN X.prog X.w a kvs) ∧ ty σ H1 fun y H2 => tx σ H2 fun z H3 => ∃ kvs k, Rd H3 a (DN X.prog X.w a kvs) ∧ y = nV k ∧ Q ((valV kvs k).getD z) H3
def sNPut (X : Cx) (td ty tv : TE) : TS := fun D σ H => tv σ H fun v H1 => td σ H1 fun x H2 => ty σ H2 fun y H3 => ∃ a kvs k, x = .ref a ∧ H3 a = some (DN X.prog X.w a kvs) ∧ y = nV k ∧ kvs.length < sizeLine ∧ D.nx σ (upd H3 a (DN X.prog X.w a (putK kvs k v)))
section
variable {X : Cx} {o i e f value : Expr} {pos pos' apos cpos : Pos} {td ty tx tv : TE}
theorem pe_nnew : PE X (.Dict [] [] pos) (tNNew X) := by
  refine ⟨fun pins s σ H Q I h => ?_⟩
  refine thn (pe_dnewK.run pins s σ H (fun v H1 => ∃ p, v = .ref p ∧ H p = none ∧ H1 = upd H p (.dK [])) I fun p hp => ⟨p, rfl, hp, rfl⟩) fun u s1 ⟨v, H1, I1, rv, p, ev, hp, eH⟩ => ?_
  subst ev eH
  obtain ⟨z, hd, vs, rel, dd⟩ := dk_of (kvs := []) I1.hok upd_same
  have e0 : vs = [] := by cases rel; rfl
  subst e0
  have d2 : s1.heap.DictOf (noneKind X.prog X.w) p [] := by
    obtain ⟨ob, es, ep, h1, h2, h3, h4, h5, h6⟩ := dd
    have e1 : es = #[] := by
      have l := h5.length
      simp at l
      exact l
    subst e1
    exact ⟨ob, #[], ep, h1, h2, h3, fun q hq => absurd hq (by simp), .nil, List.nodup_nil⟩
  have I2 : Inv X pins σ (upd (upd H p (.dK [])) p (DN X.prog X.w p [])) s1 := n_write (t' := s1.toks) I1 (by rw [upd_same]; exact True.intro) ⟨rfl, fun b _ => rfl⟩ z hd .nil d2
  rw [upd_upd] at I2
  exact ⟨.ref p, _, I2, rv, h p hp⟩
theorem pe_nget (ho : PE X o td) (hi : PE X i ty) (hs : NoSl i) : PE X (.Subscript o i pos) (tNGet X td ty) := by
  refine ⟨fun pins s σ H Q I h => subD_of PySem.F.slot_dict_getitem.lookup hs (thn (ho.run pins s σ H _ I h) fun u s1 ⟨x, H1, I1, rx, q1⟩ => thn (hi.run pins s1 σ H1 _ I1 q1) fun j s2 ⟨y, H2, I2, ry, q2⟩ => ?_)⟩
  obtain ⟨a, kvs, k, v, ex, e2, ey, l, q⟩ := q2
  subst ex ey
  cases (show u = Value.ref a from rx)
  exact ⟨(n_kind I2 e2).1, n_getItem I2 e2 ry l fun x s3 I3 r3 => ⟨v, H2, I3, r3, q⟩⟩
theorem pc_nin (hi : PE X i ty) (ho : PE X o td) : PC X .In i o (tNIn X ty td) := by
  refine ⟨fun pins s σ H Q I h => thn (hi.run pins s σ H _ I h) fun j s1 ⟨y, H1, I1, ry, q1⟩ => thn (ho.run pins s1 σ H1 _ I1 q1) fun u s2 ⟨x, H2, I2, rx, q2⟩ => ?_⟩
  obtain ⟨a, kvs, k, ex, e2, ey, q⟩ := q2
  subst ex ey
  cases (show u = Value.ref a from rx)
  exact n_in I2 e2 ry fun s3 I3 => ⟨.bl _, H2, I3, rfl, q⟩
theorem pe_nget2 (ho : PE X o td) (he : PE X e ty) (hf : PE X f tx) (m : M2 X o "get" apos e f cpos) : PE X (.Call (.Attribute o "get" apos) [e, f] [] cpos) (tNGet2 X td ty tx) := by
  refine ⟨fun pins s σ H Q I h => wpAny_Call_method m.base m.few m.line PySem.F.plainAttrs_dict PySem.F.slot_dict_get PySem.F.type_dict_get (thn (ho.run pins s σ H _ I h) fun u s1 ⟨x, H1, I1, rx, q1⟩ => ?_)⟩
  obtain ⟨a, kvs, ex, e1, q1⟩ := q1
  subst ex
  cases (show u = Value.ref a from rx)
  have kd := n_kind (kvs := kvs) I1 e1
  refine ⟨kd.1, kd.2, ?_⟩
  rw [m.trees]
  refine Calls.callWith_builtin rfl (Calls.evalArgs_plain (Calls.spliced_cons (thn (he.run pins s1 σ H1 _ I1 q1) fun j s2 ⟨y, H2, I2, ry, q2⟩ => Calls.spliced_cons (thn (hf.run pins s2 σ H2 _ I2 q2) fun g s3 ⟨z, H3, I3, rz, q3⟩ => Calls.spliced_nil ?_))))
  obtain ⟨ms, k, e3, ey, q⟩ := q3
  subst ey
  exact n_get2 I3 e3 ry rz fun x s4 I4 r4 => ⟨_, H3, I4, r4, q⟩
theorem ps_nput (ho : PE X o td) (hi : PE X i ty) (hv : PE X value tv) (hs : swapsWith value (some (.Subscript o i pos')) pos.line X.env = pure false) : PS X (.Assign [.Subscript o i pos'] value pos) (sNPut X td ty tv) := by
  refine ⟨fun pins s σ H D I h => wpAny_Assign_Subscript (thn (hv.run pins s σ H _ I h) fun r s1 ⟨v, H1, I1, rv, q1⟩ => thn (ho.run pins s1 σ H1 _ I1 q1) fun u s2 ⟨x, H2, I2, rx, q2⟩ => thn (hi.run pins s2 σ H2 _ I2 q2) fun j s3 ⟨y, H3, I3, ry, q3⟩ => ?_) hs⟩
  obtain ⟨a, kvs, k, ex, e3, ey, hz, q⟩ := q3
  subst ex ey
  cases (show u = Value.ref a from rx)
  exact n_setItem I3 e3 hz ry rv fun s4 I4 => ⟨σ, _, I4, q⟩
end
/-! for k in d -/
/-- what the lock tells of it -/
theorem n_lock {X : Cx} {pins : List (Addr × Obj)} {σ : L2.St} {H : Hp} {s : Shared} {d : Addr} {o : Obj} {kvs : List (NK × V)} (I : Inv X pins σ H s) (h : H d = some (.frz o (DN X.prog X.w d kvs))) :
    (d == sysModules) = false ∧ s.heap.get? d = some o ∧ o.ExactDict ∧ ∃ (es : Array DictEntry) (ep : Nat) (vs : List (NK × Value)), o.data = .dict es ep ∧ es.size = kvs.length ∧ KV kvs vs ∧ s.heap.DictAt (noneKind X.prog X.w) d vs ep := by
  have q := I.hok d _ h
  obtain ⟨_, z, vs, kv, dd⟩ := DN.un q.2
  have hd : s.heap.get? d = some o := q.1
  obtain ⟨ob, es, ep, h1, h2, h3, r⟩ := dd
  rw [hd] at h1
  cases h1
  have n1 := r.2.1.length
  have n2 : kvs.length = vs.length := Paired.length kv
  rw [Array.length_toList] at n1
  exact ⟨z, hd, h2, es, ep, vs, h3, n1.trans n2.symm, kv, o, es, hd, h2, h3, r⟩
def Itn (P : Program) (w : World) (d : Addr) (o : Obj) (kvs : List (NK × V)) : It where
  go i H := H d = some (.frz o (DN P w d kvs)) ∧ i < kvs.length
  yld i H x H' := H' = H ∧ ∃ k v, kvs[i]? = some (k, v) ∧ x = nV k
  stop i H := H d = some (.frz o (DN P w d kvs)) ∧ kvs.length ≤ i
theorem turn_n {P : Program} {w : World} {K : PySem.W.Frag} {tg : Expr} {d it : Addr} {o : Obj} {es : Array DictEntry} {ep : Nat} {kvs : List (NK × V)} (hod : o.data = .dict es ep) : Turn P w K tg (Itn P w d o kvs) [it] it (fun i h => h.IsKeyIter it d i kvs.length ep) where
  mem := List.mem_singleton.mpr rfl
  obj i h st b hb := by
    rw [List.mem_singleton.mp hb]
    obtain ⟨oi, e, _, dd⟩ := st
    refine ⟨oi, e, fun v z => ?_⟩
    rw [dd] at z
    cases z
  keep i h h' st k := st.at (k it (List.mem_singleton.mpr rfl))
  item := by
    rintro X rfl rfl rfl hc i pins s σ H E I hf st ⟨hd, hi⟩
    have F := hf it (List.mem_singleton.mpr rfl)
    obtain ⟨_, _, _, es2, ep2, vs, h3, _, kv, at_⟩ := n_lock I hd
    cases (dict_ep hod h3).2
    have hkv : kvs[i]? = some (kvs[i].1, kvs[i].2) := List.getElem?_eq_getElem hi
    obtain ⟨u, hu, _⟩ := kv_get kv hkv
    have n : kvs.length = vs.length := Paired.length kv
    rw [n] at st
    refine wpAny_pyNext_dict_item st at_ hu fun key h2 hk st2 sb => ?_
    have I2 := I.turned (h' := h2) (t' := s.toks) (fun b ob hb e => (sb.2 b hb).trans e) F.1 F.2.1 F.2.2.2.1 F.2.2.2.2.1 F.2.2.2.2.2
    obtain ⟨oi, e, c, dd⟩ := id st2
    refine ⟨key, rfl, go_of (s := { s with heap := h2 }) e c dd (by decide) ⟨nV kvs[i].1, H, I2, nV_rel hk, ⟨rfl, _, _, hkv, rfl⟩, ?_, fun b hb => (hf b hb).1⟩⟩
    show h2.IsKeyIter it d (i + 1) kvs.length _
    rw [n]
    exact st2
  done := by
    rintro X rfl rfl rfl hc i pins s σ H E I hf st ⟨hd, hi⟩
    have F := hf it (List.mem_singleton.mpr rfl)
    obtain ⟨_, hg, _, es2, ep2, vs, h3, sz, _, _⟩ := n_lock I hd
    cases (dict_ep hod h3).2
    exact next_key_end (I.ok.hd hc) st hg h3 sz hi fun h2 eb => ⟨rfl, I.turned (t' := s.toks) (fun b ob hb e => eb b ob hb e) F.1 F.2.1 F.2.2.2.1 F.2.2.2.2.1 F.2.2.2.2.2⟩
  self A i s Q E st h := wpAny_pyIter_keyiter st h
/-- the dict is locked by the caller -/
def iNk (X : Cx) (td : TE) : TI := fun σ H R => td σ H fun x H1 => ∃ d o kvs, x = .ref d ∧ H1 d = some (.frz o (DN X.prog X.w d kvs)) ∧ R (Itn X.prog X.w d o kvs) H1
theorem pi_nk {X : Cx} {tg e : Expr} {td : TE} (he : PE X e td) : PI X tg e (iNk X td) := by
  refine ⟨fun pins s σ H R I h => thn (he.run pins s σ H _ I h) fun u s1 ⟨x, H1, I1, rx, q⟩ => ?_⟩
  obtain ⟨d, o, kvs, ex, hd, q⟩ := q
  subst ex
  cases (show u = Value.ref d from rx)
  obtain ⟨z, hg, hx, es, ep, vs, h3, sz, _, _⟩ := n_lock I1 hd
  refine iter_keys z hg hx h3 (pi_one (tk := s1.toks) I1 _ (turn_n h3) ⟨_, Heap.get?_push_size _ rfl, rfl, ?_⟩ q)
  rw [sz]
  rfl
end KZ
end

section
set_option Elab.async false
set_option linter.all false
set_option maxRecDepth 100000
set_option maxHeartbeats 4000000
/-! a dict by a comprehension, None among its keys -/
namespace KZ
open PySem PySem.Spec PyProof.Rows L2
section
variable {X : Cx}
/-- one turn of {k: v for target in iter if ..} into the dict at D; Nx: what the next turn asks -/
def tNTurn (X : Cx) (D : Addr) (tt : TT) (tk tv : TE) (Nx : Hp → Prop) : L2.St → Hp → Prop := fun σ H =>
  tt σ H fun b H3 => if b = true then tk σ H3 fun y H4 => tv σ H4 fun z H5 => ∃ kvs k, y = nV k ∧ H5 D = some (DN X.prog X.w D kvs) ∧ kvs.length < sizeLine ∧ Nx (upd H5 D (DN X.prog X.w D (putK kvs k z))) else Nx H3
def tDn (X : Cx) (wi : TI) (g : TG) (tt : TT) (tk tv : TE) (vs : List Nat) : TE := fun σ H Q => wi σ H fun J H1 => ∀ D, H1 D = none →
  ∃ W : Nat → Nat → Hp → Prop, (∃ m, W 0 m (upd H1 D (DN X.prog X.w D []))) ∧ ∀ i m H, W i m H → (J.stop i H ∧ Q (.ref D) H) ∨
    (J.go i H ∧ ∃ Nx : Hp → Prop, (∀ H', Nx H' → ∃ m', m' < m ∧ W (i + 1) m' H') ∧ ∀ x H', J.yld i H x H' → g x (wipe σ vs) H' fun σ2 H2 => wipe σ2 vs = wipe σ vs ∧ tNTurn X D tt tk tv Nx σ2 H2)
theorem dn_empty {P : Program} {w : World} {H : Hp} (h : Heap) (hb : sysModules < h.objs.size) : ObjOk P w H (h.push { cls := .type "dict", data := .dict #[] }) h.objs.size (DN P w h.objs.size []) :=
  DN.mk (vs := []) (Nat.zero_le _) (beq_eq_false_iff_ne.mpr fun z => Nat.lt_irrefl _ (z ▸ hb)) .nil (Heap.DictOf.new h)
/-- {k: v for target in iter if ..} -/
theorem pe_dcN {kx vx tg iter : Expr} {ifs : List Expr} {scope : Scope} {own : List (Str × Nat)} {pos : Pos} {wi : TI} {g : TG} {tt : TT} {tk tv : TE} (calm : X.calm = true) (nd : X.N.Nodup) (it_ : PI X tg iter wi) (blk : BlkOk X.N X.env.scope scope own)
    (p1 : ∀ (s : Shared) (H : Hp) (C : Addr) (cl : List (Str × Addr)) (fp : List Addr), PG (X.blk s H scope (compEnvC scope cl C X.env) fp) tg g)
    (p2 : ∀ (s : Shared) (H : Hp) (C : Addr) (cl : List (Str × Addr)) (fp : List Addr), PTs (X.blk s H scope (compEnvC scope cl C X.env) fp) ifs tt)
    (p3 : ∀ (s : Shared) (H : Hp) (C : Addr) (cl : List (Str × Addr)) (fp : List Addr), PE (X.blk s H scope (compEnvC scope cl C X.env) fp) kx tk)
    (p4 : ∀ (s : Shared) (H : Hp) (C : Addr) (cl : List (Str × Addr)) (fp : List Addr), PE (X.blk s H scope (compEnvC scope cl C X.env) fp) vx tv)
    (fold : ∀ x, foldedSetIterable iter X.env x = pure x := by intro _; rfl) : PE X (.DictComp kx vx [⟨tg, iter, ifs, 0⟩] scope pos) (tDn X wi g tt tk tv (own.map (·.2))) := by
  refine ⟨fun pins s σ H Q I hQ => ?_⟩
  rw [arm_eval_DictComp]
  have free_ : ∀ y ∈ scope.names, y.2 = .free → ∃ c, X.env.cells.lookup y.1 = some c := by
    intro y hy e
    exact I.ok.has _ (blk.free y hy e)
  refine wpAny_comprehension_free (use := none) rfl fold (closure_ok free_) blk.kind (fun y hy e => by rw [blk.uniq y hy, e]) (thn (it_.run pins s σ H _ I hQ) fun xv s1 y1 => thn y1 fun itv s2 y2 => ?_)
  obtain ⟨it, fp, tn, J, H2, rfl, I2, T, st2, f2, q⟩ := y2
  refine wpAny_newObj_type (newEnv_comp ?_)
  generalize eD : s2.heap.objs.size = D
  obtain ⟨W, ⟨m0, w0⟩, turn⟩ := q D (I2.hok.fresh (Nat.le_of_eq eD))
  generalize e3 : ({ s2 with heap := s2.heap.push { cls := .type "dict", data := .dict #[] } } : Shared) = s3
  have heap3 : s3.heap = s2.heap.push { cls := .type "dict", data := .dict #[] } := e3 ▸ rfl
  generalize eH : upd H2 D (DN X.prog X.w D []) = H3 at w0
  have I3 : Inv X pins σ H3 s3 := by
    subst e3 eH eD
    exact I2.laid (t' := s2.toks) (fun b o e => Heap.get?_push_of_some _ e) (Nat.le_refl _) (dn_empty s2.heap I2.big)
  have low : ∀ b ∈ fp, b < s2.heap.objs.size := by
    intro b hb
    obtain ⟨o, e, _⟩ := T.obj _ _ st2 b hb
    exact Heap.lt_size e
  have f3 : ∀ b ∈ fp, FpOk X pins H3 b ∧ b < s3.heap.objs.size := by
    intro b hb
    have l := low b hb
    have z := f2 b hb
    refine ⟨⟨?_, z.2⟩, ?_⟩
    · rw [← eH, upd_ne (fun y => Nat.lt_irrefl _ (by rw [y, eD] at l; exact l))]
      exact z.1
    · rw [heap3, Heap.size_push]
      exact Nat.lt_succ_of_lt l
  have st3 : tn 0 s3.heap := T.keep _ _ _ st2 fun b _ o e => heap3 ▸ Heap.get?_push_of_some _ e
  have none3 : ∀ b ∈ fp, H3 b = none := fun b hb => (f3 b hb).1.1
  have I4 := block_start I3 blk nd f3
  generalize ecl : cellsFrom (s3.heap.objs.size + 1) scope.names (cloFrom X.env.cells scope.names []) = cl at I4
  have g1 := p1 s3 H3 s3.heap.objs.size cl fp
  have g2 := p2 s3 H3 s3.heap.objs.size cl fp
  have g3 := p3 s3 H3 s3.heap.objs.size cl fp
  have g4 := p4 s3 H3 s3.heap.objs.size cl fp
  have eL : (compEnvC scope cl s3.heap.objs.size X.env).locals = s3.heap.objs.size := rfl
  generalize eE : compEnvC scope cl s3.heap.objs.size X.env = env at I4 g1 g2 g3 g4 eL
  generalize e4 : ({ s3 with heap := pushCells (s3.heap.push { cls := .type "dict", data := .dict #[] }) scope.names } : Shared) = s4 at I4
  have st4 : tn 0 s4.heap := T.keep _ _ _ st3 fun b _ o e => e4 ▸ pushCells_keeps _ _ _ _ (Heap.get?_push_of_some _ e)
  let B := X.blk s3 H3 scope env fp
  have held : ∀ {σ' : L2.St} {H' : Hp} {s' : Shared}, Inv B [] σ' H' s' → (∀ b ∈ fp, H' b = none) → ∀ b ∈ fp, FpOk B [] H' b := by
    intro σ' H' s' J' n b hb
    have z := J'.ok.exf b hb
    exact ⟨n b hb, z.1, J'.ok.exfs b hb, .inl hb, fun x c e => z.2 x c e, fun p hp => nomatch (show p ∈ ([] : List (Addr × Obj)) from hp)⟩
  have post : codeAny (model X.prog X.w) X.A (.compLoop (.DictComp kx vx [⟨tg, iter, ifs, 0⟩] scope pos) 0 (.ref it) (.ref D) env) (compPost (model X.prog X.w) X.A X.xe none (EP X pins σ Q) (.ref D) s3.heap.objs.size) s4 := by
    refine compLoop_anyD (fun n s' => ∃ i H', Inv B [] (wipe σ (own.map (·.2))) H' s' ∧ tn i s'.heap ∧ (∀ b ∈ fp, H' b = none) ∧ W i n H') ?_ m0 ⟨0, H3, I4, st4, none3, w0⟩
    rintro n s5 ⟨i, H5, I5, st5, n5, w5⟩
    rcases turn i n H5 w5 with ⟨stop, qq⟩ | ⟨go, Nx, hNx, step⟩
    · refine thnF (T.done B rfl rfl rfl calm i [] s5 _ H5 (fun _ _ => False) I5 (held I5 n5) st5 stop) fun r s6 y6 => ?_
      obtain ⟨rfl, I6⟩ := y6
      have I7 : Inv X pins σ H5 s6 := by
        refine I3.call' (ch := fp) I6.os I6.base I6.hok I6.bare fun b hb => ?_
        have z := (f3 b hb).1.2
        exact ⟨z.2.2.1, z.1, z.2.2.2.1, z.2.2.2.2⟩
      have nC : H5 s3.heap.objs.size = none := eL ▸ I6.free
      obtain ⟨m, hn, _⟩ := I6.loc
      have fC := I3.fpOk (Nat.le_refl _) nC
      refine ⟨m, eL ▸ hn, fun h2 sb => ?_⟩
      exact ⟨.ref D, H5, I7.turned (t' := s6.toks) (fun b o hb e => (sb.2 b hb).trans e) fC.1 fC.2.1 fC.2.2.2.1 fC.2.2.2.2.1 fC.2.2.2.2.2, rfl, qq⟩
    · refine thnF (T.item B rfl rfl rfl calm i [] s5 _ H5 (fun _ _ => False) I5 (held I5 n5) st5 go) fun r s6 y6 => ?_
      obtain ⟨u, rfl, y6⟩ := y6
      refine thnF y6 fun _ s7 y7 => ?_
      obtain ⟨x, H7, I7, r7, yl, st7, n7⟩ := y7
      have P7 := I7.pinned (held I7 n7) (T.obj _ _ st7)
      refine thnF (g1.run _ s7 _ H7 x u _ P7 r7 (step x H7 yl)) fun _ s8 y8 => ?_
      obtain ⟨σ8, H8, I8, w8, y8⟩ := y8
      refine thnF (g2.run _ s8 σ8 H8 _ I8 y8) fun b s9 y9 => ?_
      obtain ⟨H9, I9, y9⟩ := y9
      have len8 : (wipe σ (own.map (·.2))).length = σ8.length := by rw [← w8, wipe_length]
      have next : ∀ {s' : Shared} {H' : Hp}, Inv B ([] ++ pinsAt fp s7.heap) σ8 H' s' → Nx H' → ∃ m, m < n ∧ ∃ i H', Inv B [] (wipe σ (own.map (·.2))) H' s' ∧ tn i s'.heap ∧ (∀ b ∈ fp, H' b = none) ∧ W i m H' := by
        intro s' H' I' nx
        obtain ⟨k, hk, w'⟩ := hNx H' nx
        have pin : ∀ b ∈ fp, ∀ o, s7.heap.get? b = some o → s'.heap.get? b = some o ∧ H' b = none := by
          intro b hb o e
          have z := I'.pin (b, o) (List.mem_append_right _ (List.mem_append_right _ (mem_pinsAt hb e)))
          exact ⟨z.1, z.2.1⟩
        refine ⟨k, hk, i + 1, H', (I'.unpinned (pins := [])).weak len8 ?_, T.keep _ _ _ st7 fun b hb o e => (pin b hb o e).1, ?_, w'⟩
        · intro j v e
          rw [← w8] at e
          exact (wipe_some e).1
        · intro b hb
          obtain ⟨o, e, _⟩ := T.obj _ _ st7 b hb
          exact (pin b hb o e).2
      cases b with
      | false => exact next I9 y9
      | true =>
        refine thnF (g3.run _ s9 σ8 H9 _ I9 y9) fun z s10 y10 => ?_
        obtain ⟨yk, H10, I10, r10, y10⟩ := y10
        refine thnF (g4.run _ s10 σ8 H10 _ I10 y10) fun z2 s11 y11 => ?_
        obtain ⟨yv, H11, I11, r11, kvs, k, ek, eD11, hz, nx⟩ := y11
        subst ek
        exact n_dictSet (X := B) I11 eD11 hz r10 r11 fun s12 I12 => next I12 nx
  subst eE ecl e4
  exact codeAny_compStart_dict post (T.self X.A 0 _ _ _ st4 post)
end
end KZ
end

section
set_option Elab.async false
set_option linter.all false
set_option maxRecDepth 100000
set_option maxHeartbeats 4000000
/-! == and != by an own __eq__, whatever it answers, whatever the other value is -/
namespace KZ
open PySem PySem.Spec PyProof.Rows L2
section
variable {prog : Program} {w : World} {A : Around} {E : Value → Shared → Prop} {s : Shared} {K : PySem.W.Frag} {x C f : Addr} {ox : Obj} {od : Option Obj} {b tb : Value}
/-- object.__ne__ of an instance with an own __eq__ -/
theorem ne_try {Q : Option Value → Shared → Prop} (hu : A.units + 1 < cLine) (X : K.In s.heap) (I : PySem.W.InstAt s.heap x ox C od) (hne : PySem.W.findIn K (.ref C) "__ne__" = some (some (.builtin "object.__ne__"))) (hob : PySem.W.mroIn K C (.type "object") = some true)
    (hs : PySem.W.findIn K (.ref C) "__eq__" = some (some (.ref f))) (hf : PySem.W.isFn K (.ref f) = true)
    (h : wpAny (model prog w) A.in1 (call (.ref f) [.ref x, b]) (fun v s' => ∃ r, v = .bool r ∧ Q (some (.bool (!r))) s') E s) : wpAny (model prog w) A (tryCompare (.ref x) "__ne__" b) Q E s := by
  have ins : PySem.W.Looks (model prog w) s.heap (isInstance (.ref x) (.type "object")) true := I.type.andThen (PySem.W.looks_subIn X (t := .ref C) hob)
  have body : wpAny (model prog w) A.in1 (Builtin.«object.__ne__» ⟨[.ref x, b], []⟩) (fun fin s' => match fin with
      | .done fl => ∃ v, fl = .ret v ∧ ∃ r, v = .bool (!r) ∧ Q (some (.bool (!r))) s'
      | .again _ => False) E s := by
    unfold Builtin.«object.__ne__»
    refine wpAny_bind (wpAny_pure ?_)
    refine wpAny_bind (wpAny_cRoomFor hu ?_)
    refine wpAny_bind (PySem.W.ifBound_K (args := [b]) X I hs hf (wpAny_mono h (fun v s' hv => ?_) fun _ _ e => e))
    obtain ⟨r, rfl, q⟩ := hv
    refine wpAny_bind (wpAny_truthy_bool ?_)
    exact wpAny_pure ⟨_, rfl, r, rfl, q⟩
  unfold tryCompare
  refine wpAny_bind ?_
  simp only [callSpecialIfBound?, bindSpecialIfBound?]
  refine wpAny_holding (wpAny_bind (wpAny_bind (wpAny_bind (I.type.here ((PySem.W.looks_findIn X hne).here ?_)))))
  simp only [F.cmp_object.ne.bind]
  have fin : wpAny (model prog w) A (call (.builtin "object.__ne__") ([.ref x] ++ [b]) >>= fun v => pure (some v)) (fun v s' => wpAny (model prog w) A (match v with
      | some .notImplemented | none => pure none
      | some v => pure (some v)) Q E s') E s := by
    refine wpAny_bind (wpAny_call (codeAny_call_builtin F.cmp_object.ne.plain F.cmpEntry_ne (PySem.W.check_slot F.cmpKind_ne F.cmpSplit_ne ins (F.cmpArgs_ne _ _) (wpAny_mono body (fun fl s' hq => ?_) fun _ _ e => e))))
    cases fl with
    | again c => exact hq.elim
    | done fl =>
      obtain ⟨v, rfl, r, rfl, q⟩ := hq
      exact wpAny_pure (wpAny_pure q)
  refine wpAny_bind (wpAny_askSetting (wpAny_ite ?_))
  split
  · exact wpAny_bind (wpAny_pure (wpAny_pure fin))
  · exact wpAny_tryCatch (wpAny_bind (wpAny_pure (wpAny_pure fin)))
/-- x != b, x an instance with an own __eq__ and no own __ne__ -/
theorem ne_own {Q : Value → Shared → Prop} (hu : A.units + 1 < cLine) (X : K.In s.heap) (I : PySem.W.InstAt s.heap x ox C od) (hb : PySem.W.Looks (model prog w) s.heap (typeOf b) tb) (hn : PySem.W.notFirst K C tb = true)
    (hne : PySem.W.findIn K (.ref C) "__ne__" = some (some (.builtin "object.__ne__"))) (hob : PySem.W.mroIn K C (.type "object") = some true) (hs : PySem.W.findIn K (.ref C) "__eq__" = some (some (.ref f))) (hf : PySem.W.isFn K (.ref f) = true)
    (h : wpAny (model prog w) A.in1 (call (.ref f) [.ref x, b]) (fun v s' => ∃ r, v = .bool r ∧ Q (.bool (!r)) s') E s) : wpAny (model prog w) A (richCompare .NotEq (.ref x) b) Q E s := by
  have t := ne_try (Q := fun v s' => ∃ z, v = some z ∧ Q z s') hu X I hne hob hs hf (wpAny_mono h (fun v s' ⟨r, e, q⟩ => ⟨r, e, _, rfl, q⟩) fun _ _ e => e)
  unfold richCompare
  simp only [oneThing_ref]
  refine wpAny_holding (wpAny_bind (wpAny_cRoomFor (Nat.lt_of_succ_lt hu) ?_))
  refine wpAny_bind (I.type.here (wpAny_bind (hb.here ?_)))
  have last : wpAny (model prog w) A (tryCompare (.ref x) "__ne__" b) (fun r s' => ∃ v, r = some v ∧ wpAny (model prog w) A (pure v) Q E s') E s :=
    wpAny_mono t (fun r s' ⟨v, e, q⟩ => ⟨v, e, wpAny_pure q⟩) fun _ _ e => e
  split
  · rename_i q
    have e : PySem.W.subIn K tb (.ref C) = some false := by
      rcases Bool.or_eq_true_iff.mp hn with z | z
      · have z2 := beq_iff_eq.mp z
        subst z2
        simp at q
      · exact beq_iff_eq.mp z
    refine wpAny_bind ((PySem.W.looks_subIn X e).here ?_)
    simp only [Bool.false_eq_true, if_false]
    refine wpAny_bind (wpAny_mono last (fun r s' hr => ?_) fun _ _ e => e)
    obtain ⟨v, rfl, qv⟩ := hr
    exact qv
  · refine wpAny_bind (wpAny_pure ?_)
    simp only [Bool.false_eq_true, if_false]
    refine wpAny_bind (wpAny_mono last (fun r s' hr => ?_) fun _ _ e => e)
    obtain ⟨v, rfl, qv⟩ := hr
    exact qv
end
/-! the rules -/
section
variable {X : Cx} {pins : List (Addr × Obj)} {σ : L2.St} {H : Hp} {s : Shared}
theorem ty_look {y : V} {u t : Value} (I : Inv X pins σ H s) (r : RelV y u) (ty : TyOf X.K H y t) (M : Model) : PySem.W.Looks M s.heap (typeOf u) t := by
  have at_ : ∀ {a : Addr} {o : Obj}, s.heap.get? a = some o → PySem.W.Looks M s.heap (typeOf (.ref a)) o.cls := fun h A Q E s2 k q => wpAny_typeOf_ref (k _ _ h) q
  cases ty with
  | non => cases (show u = Value.none from r); exact PySem.W.Looks.of_pure rfl
  | bl z => cases (show u = Value.bool z from r); exact PySem.W.Looks.of_pure rfl
  | int i => obtain ⟨k, e⟩ := (show ∃ k, u = Value.int i k from r); subst e; exact PySem.W.Looks.of_pure rfl
  | str z => obtain ⟨k, e⟩ := (show ∃ k, u = Value.str z k from r); subst e; exact PySem.W.Looks.of_pure rfl
  | flt z => obtain ⟨k, e⟩ := (show ∃ k, u = Value.float z k from r); subst e; exact PySem.W.Looks.of_pure rfl
  | @lst a xs ea =>
    cases (show u = Value.ref a from r)
    obtain ⟨_, _, n, _, h1⟩ := (show ObjOk X.prog X.w H s.heap a (.lst xs) from I.hok a _ ea)
    exact at_ h1
  | @frz a ob xs ea =>
    cases (show u = Value.ref a from r)
    obtain ⟨_, _, _, n, _, h1⟩ := (show ObjOk X.prog X.w H s.heap a (.frz ob (.lst xs)) from I.hok a _ ea)
    exact at_ h1
  | @tup a xs ea =>
    cases (show u = Value.ref a from r)
    obtain ⟨_, _, _, o, h1, h2, _⟩ := (show ObjOk X.prog X.w H s.heap a (.tup xs) from I.hok a _ ea)
    exact h2 ▸ at_ h1
  | @dK a kvs ea =>
    cases (show u = Value.ref a from r)
    obtain ⟨_, _, vs, _, o, es, ep, h1, h2, _⟩ := (show ObjOk X.prog X.w H s.heap a (.dK kvs) from I.hok a _ ea)
    exact h2.1 ▸ at_ h1
  | @dT a kvs ea =>
    cases (show u = Value.ref a from r)
    obtain ⟨_, _, vs, _, o, es, ep, h1, h2, _⟩ := (show ObjOk X.prog X.w H s.heap a (.dT kvs) from I.hok a _ ea)
    exact h2.1 ▸ at_ h1
  | @ins a D dx fs ea =>
    cases (show u = Value.ref a from r)
    obtain ⟨mA, J, _⟩ := ins_get I.hok ea
    obtain ⟨od, J, _⟩ := J.look
    exact J.type
/-- what the own == is asked of two values; neg: its opposite is wanted -/
def rOwn (K : PySem.W.Frag) (C : Addr) (sp : Sp) (E : XK) (neg : Bool) : R2 := fun x y H Q => ∃ a dx fs t, x = .ref a ∧ H a = some (.ins C dx fs) ∧ TyOf K H y t ∧ PySem.W.notFirst K C t = true ∧
  sp [x, y] H (fun v H' => ∃ r : Bool, v = .bl r ∧ Q (.bl (neg != r)) H') E
theorem run_own {CX : CXT} {n : Nat} {f : Addr} {fd : FuncData} {ps : List Str} {sp : Sp} {E : XK} {A : Around} {us : List Value} {vs : List V} {Q : VK} (F : FnOk X.prog X.w X.K X.mg X.base CX n f fd ps sp) (hb : Binds X.K fd ps []) (hx : Passes CX X E) (sb : Sub X n A)
    (I : Inv X pins σ H s) (r : Vals vs us) (h : sp vs H Q E) : wpAny (model X.prog X.w) A (call (.ref f) us) (EP X pins σ Q) X.xe s := by
  have e0 : Env0 X.prog X.w X.K X.mg X.base A X.stack s H := by
    have e := I.env0
    refine ⟨?_, e.mod, e.bs, e.bsz, e.funs, e.frf, e.hok, e.bare⟩
    rw [sb.fr]
    exact e.frames
  have hl := F.len _ _ _ _ h
  have bd : BindsTo s fd ⟨us, []⟩ (ps.zip us) := by
    have z := hb s us I.kIn (by rw [List.append_nil, ← r.length]; exact hl)
    rw [List.append_nil] at z
    exact z
  refine wpAny_call (codeAny_mono (F.run A X.stack s H ⟨us, []⟩ us vs Q E sb.room e0 bd r h) fun res s' hq => ?_)
  cases res with
  | error e => exact hx pins σ H s e s' I hq
  | ok fl =>
    cases fl with
    | ret u =>
      obtain ⟨v, H', I', rv, q⟩ := I.after hq
      exact ⟨v, H', I', rv, q⟩
    | next => exact False.elim hq
    | brk => exact False.elim hq
    | cont => exact False.elim hq
structure OwnEqF (K : PySem.W.Frag) (C f : Addr) (fd : FuncData) (ps : List Str) : Prop where
  eq : PySem.W.findIn K (.ref C) "__eq__" = some (some (.ref f))
  fn : PySem.W.isFn K (.ref f) = true
  ne : PySem.W.findIn K (.ref C) "__ne__" = some (some (.builtin "object.__ne__"))
  ob : PySem.W.mroIn K C (.type "object") = some true
  b : Binds K fd ps []
section
variable {CX : CXT} {n : Nat} {C f : Addr} {fd : FuncData} {ps : List Str} {sp : Sp} {E : XK}
theorem op_eqO (F : FnOk X.prog X.w X.K X.mg X.base CX n f fd ps sp) (O : OwnEqF X.K C f fd ps) (hx : Passes CX X E) (hr : Room n X.A) : OpR X (compareOp .Eq) (rOwn X.K C sp E false) := by
  intro pins s σ H x y u v Q I rx ry hq
  obtain ⟨a, dx, fs, t, ex, ha, ty, nf, h⟩ := hq
  subst ex
  cases (show u = Value.ref a from rx)
  obtain ⟨mA, J, _⟩ := ins_get I.hok ha
  obtain ⟨od, J, _⟩ := J.look
  obtain ⟨m, hF⟩ := I.fr
  show wpAny (model X.prog X.w) X.A (richCompare .Eq (.ref a) v) (EP X pins σ Q) X.xe s
  refine PySem.W.cmp_K (op := .Eq) (tb := t) hr.units0 hF I.ok.mod.kin J (ty_look I ry ty _) nf O.eq O.fn ?_
  refine wpAny_mono (run_own F O.b hx ⟨hr, rfl⟩ I (.cons rx (.cons ry .nil)) h) (fun z s' hz => ?_) fun _ _ e => e
  obtain ⟨_, H', I', rz, r, rfl, q⟩ := hz
  cases (show z = Value.bool r from rz)
  exact ⟨.bl r, H', I', rfl, by cases r <;> exact q⟩
theorem op_neO (F : FnOk X.prog X.w X.K X.mg X.base CX n f fd ps sp) (O : OwnEqF X.K C f fd ps) (hx : Passes CX X E) (hr : Room (n + 1) X.A) : OpR X (compareOp .NotEq) (rOwn X.K C sp E true) := by
  intro pins s σ H x y u v Q I rx ry hq
  obtain ⟨a, dx, fs, t, ex, ha, ty, nf, h⟩ := hq
  subst ex
  cases (show u = Value.ref a from rx)
  obtain ⟨mA, J, _⟩ := ins_get I.hok ha
  obtain ⟨od, J, _⟩ := J.look
  show wpAny (model X.prog X.w) X.A (richCompare .NotEq (.ref a) v) (EP X pins σ Q) X.xe s
  refine ne_own (tb := t) (by have := hr.units; omega) I.kIn J (ty_look I ry ty _) nf O.ne O.ob O.eq O.fn ?_
  have sb : Sub X (n + 1) X.A := ⟨hr, rfl⟩
  refine wpAny_mono (run_own F O.b hx sb.in1 I (.cons rx (.cons ry .nil)) h) (fun z s' hz => ?_) fun _ _ e => e
  obtain ⟨_, H', I', rz, r, rfl, q⟩ := hz
  cases (show z = Value.bool r from rz)
  exact ⟨r, rfl, .bl (!r), H', I', rfl, by cases r <;> exact q⟩
end
end
end KZ
end

section
set_option Elab.async false
set_option linter.all false
set_option maxRecDepth 100000
set_option maxHeartbeats 4000000
/-! what all need -/
namespace K27
open PySem L2 KZ
/-- x not in (a, b, ..), of data -/
def rNotInT (K : PySem.W.Frag) : R2 := fun x y H Q => ∃ d ts, Dp K H x d ∧ Dp K H y (.tuple ts) ∧ SeqAt.shaped d = true ∧ SeqAt.shaped (.tuple ts) = true ∧ Q (.bl (!ts.any fun z => PyData.eqv z d)) H
theorem op_notInT {X : Cx} (room : X.A.units + 65 < cLine) : OpR X (compareOp .NotIn) (rNotInT X.K) := by
  intro pins s σ H x y v u Q I rx ry h
  obtain ⟨d, ts, gx, gy, sx, sy, q⟩ := h
  have ⟨_, r1⟩ := Dp.reads I d x v gx rx
  have ⟨_, r2⟩ := Dp.reads I (.tuple ts) y u gy ry
  exact SeqAt.notIn_tuple_reads r2 r1 (SeqAt.canLay_of_shaped sy) (SeqAt.canLay_of_shaped sx) (PyProof.Rows.room_in_shaped sx room) ⟨.bl _, H, I, rfl, q⟩
theorem room65 {k : Nat} {A : Around} (r : Room (k + 1) A) : A.units + 65 < cLine := by have := r.un; omega
/-- no dict in it -/
def nod : PyData → Bool
  | .list ds => nods ds
  | .tuple ds => nods ds
  | .dict _ => false
  | _ => true
where nods : List PyData → Bool
  | [] => true
  | d :: r => nod d && nods r
theorem Dv.dp {K : PySem.W.Frag} {H : Hp} {v : V} {d : PyData} (h : Dv K H v d) : nod d = true → Dp K H v d := by
  refine Dv.rec (motive_1 := fun v d _ => nod d = true → Dp K H v d) (motive_2 := fun vs ds _ => nod.nods ds = true → DpAll K H vs ds) (motive_3 := fun _ _ _ => True) (fun _ => .non) (fun b _ => .bl b) (fun i _ => .int i) (fun x _ => .str x) ?_ ?_ ?_ (fun _ => .nil) ?_ trivial (fun _ _ _ _ => trivial) h
  · intro a xs ds h1 _ ih z
    exact .lst h1 (ih z)
  · intro a xs ds h1 _ ih z
    exact .tup h1 (ih z)
  · intro a kvs ps _ _ _ z
    cases z
  · intro v vs d ds _ _ i j z
    have ⟨z1, z2⟩ := Bool.and_eq_true_iff.mp (show (nod d && nod.nods ds) = true from z)
    exact .cons (i z1) (j z2)
/-- an error of the class c is let out, its dict holds fs -/
def OutF (c : Addr) (fs : List (Str × V)) (H : Hp) (E : XK) : Prop := ∀ d H', Same H H' → H' d = some (.xd fs) → E (.ref c) (some d) H'
theorem OutF.at {c : Addr} {fs : List (Str × V)} {H H' : Hp} {E : XK} (q : OutF c fs H E) (s : Same H H') : OutF c fs H' E := fun d H2 s2 => q d H2 (s.trans s2)
def oV : Option Int → V
  | none => .non
  | some i => .int i
def oD : Option Int → PyData
  | none => .none
  | some i => .int i
theorem oV_dv {K : PySem.W.Frag} {H : Hp} (o : Option Int) : Dv K H (oV o) (oD o) := by
  cases o with
  | none => exact .non
  | some i => exact .int i
structure B1 (mg : Str → Option Value) : Prop extends B0 mg where
  range : mg "range" = none
  max : mg "max" = none
  min : mg "min" = none
  sorted : mg "sorted" = none
  repr : mg "repr" = none
  abs : mg "abs" = none
  enum : mg "enumerate" = none
section
variable {X : Cx}
theorem call_isiQ (K : PySem.W.Frag) (h : X.K = K := by rfl) : CallR X (.builtin "isinstance") (rIsi K) := by subst h; exact call_isi
theorem ix_seqK (K : PySem.W.Frag) (h : X.K = K := by rfl) : IxR X (rIx K) := by subst h; exact ix_seq
theorem pe_fldK {e : Expr} {f : Str} {pos : Pos} {ta : TE} (K : PySem.W.Frag) (he : PE X e ta) (hb : attributeBase e f X.env (eval e X.env) = eval e X.env) (h : X.K = K := by rfl) : PE X (.Attribute e f pos) (tFld K ta f) := by
  subst h
  exact pe_fld he hb
end
theorem at_nat {α : Type} {xs : List α} {i : Nat} {v : α} (h : xs[i]? = some v) : atI xs (i : Int) = some v := by
  have hl := (List.getElem?_eq_some_iff.mp h).1
  unfold atI ixN
  rw [if_pos (by omega), if_pos (by omega)]
  exact h
/-- a list or a tuple -/
def Sq (K : PySem.W.Frag) (H : Hp) (a : Addr) (xs : List V) : Prop := SqL K H a xs ∨ SqT K H a xs
theorem Sq.mono {K : PySem.W.Frag} {H H' : Hp} {a : Addr} {xs : List V} (s : Same H H') (h : Sq K H a xs) : Sq K H' a xs := h.elim (fun z => .inl (s.seq z)) fun z => .inr (sqT_mono s z)
def iSq (K : PySem.W.Frag) (tl : TE) : TI := fun σ H R => tl σ H fun x H1 => ∃ a xs, x = .ref a ∧ Sq K H1 a xs ∧ ∀ J G, Walk J xs.length G (YAt xs) → (∀ H, Same H1 H → G H) → R J H1
theorem pi_sq {X : Cx} {tg l : Expr} {tl : TE} (hl : PE X l tl) : PI X tg l (iSq X.K tl) := by
  refine ⟨fun pins s σ H R I h => thn (hl.run pins s σ H _ I h) fun v s1 ⟨x, H1, I1, r1, q1⟩ => ?_⟩
  obtain ⟨a, xs, e, sq, k⟩ := q1
  subst e
  cases (show v = Value.ref a from r1)
  rcases sq with sq | sq
  · obtain ⟨its, _, p, _⟩ := I1.list sq
    exact wpAny_pyIter_list p.isList (pi_one (tk := s1.toks) I1 _ (turn_list a _) ⟨_, Heap.get?_push_size _ rfl, rfl, rfl⟩ (k _ _ walk_list fun H s => s.seq sq))
  · obtain ⟨its, _, p, _⟩ := I1.tuple sq
    exact wpAny_pyIter_tuple p (pi_one (tk := s1.toks) I1 _ (turn_tuple a _) ⟨_, Heap.get?_push_size _ rfl, rfl, rfl⟩ (k _ _ walk_tup fun H s => sqT_mono s sq))
theorem Sq.len {K : PySem.W.Frag} {H : Hp} {a : Addr} {xs : List V} (h : Sq K H a xs) : LenV K (.ref a) H xs.length := h.elim (fun z => .inl ⟨_, z, rfl⟩) fun z => .inr ⟨_, z, rfl⟩
theorem Sq.ix {K : PySem.W.Frag} {H : Hp} {a : Addr} {xs : List V} {i : Int} {v : V} {Q : VK} (h : Sq K H a xs) (e : atI xs i = some v) (q : Q v H) : rIx K (.ref a) (.int i) H Q := h.elim (fun z => .inl ⟨a, xs, i, v, rfl, rfl, z, e, q⟩) fun z => .inr (.inl ⟨a, xs, i, v, rfl, rfl, z, e, q⟩)
theorem Sq.ty {K : PySem.W.Frag} {H : Hp} {a : Addr} {xs : List V} (h : Sq K H a xs) : TyX K H (.ref a) (.type "list") ∨ TyX K H (.ref a) (.type "tuple") := by
  rcases h with ((q | ⟨o, q⟩) | ⟨o, its, n, q, c, _⟩) | ((q | ⟨o, q⟩) | ⟨o, its, n, q, c, _⟩)
  · exact .inl (.base (.lst q))
  · exact .inl (.base (.frz q))
  · exact .inl (.kList q c)
  · exact .inr (.base (.tup q))
  · exact .inr (.fTuple q)
  · exact .inr (.kTuple q c)
theorem tyOf_mono {H H' : Hp} {v : V} {t : Value} (s : Same H H') (h : TyOf K H v t) : TyOf K H' v t := by
  cases h with
  | non => exact .non
  | bl x => exact .bl x
  | int i => exact .int i
  | str x => exact .str x
  | flt x => exact .flt x
  | lst e => exact .lst (s _ _ e)
  | frz e => exact .frz (s _ _ e)
  | tup e => exact .tup (s _ _ e)
  | dK e => exact .dK (s _ _ e)
  | dT e => exact .dT (s _ _ e)
  | ins e cl ha hn htk hm => exact .ins (s _ _ e) cl ha hn htk hm
theorem tyX_mono {H H' : Hp} {v : V} {t : Value} (s : Same H H') (h : TyX K H v t) : TyX K H' v t := by
  cases h with
  | base h => exact .base (tyOf_mono s h)
  | byt b => exact .byt b
  | set e => exact .set (s _ _ e)
  | kList e c => exact .kList e c
  | kTuple e c => exact .kTuple e c
  | kDict e c => exact .kDict e c
  | fTuple e => exact .fTuple (s _ _ e)
  | fDict e => exact .fDict (s _ _ e)
theorem op_in_seqK {X : Cx} (K : PySem.W.Frag) (h : X.K = K := by rfl) : OpR X (compareOp .In) (rIn K false) := by subst h; exact op_in_seq
theorem pg_tupK {X : Cx} {es : List Expr} {k : Nat} {pos : Pos} {t : TGs} {n : Nat} (K : PySem.W.Frag) (hc : X.calm = true) (h : PGs X es t) (hK : X.K = K := by rfl) (hn : (assignEach es X.env).length = n := by rfl) (hst : (assignEach es X.env).findIdx? (·.1) = none := by rfl) : PG X (.Tuple es k pos) (gTup K n t) := by
  subst hK
  exact pg_tup hc h hn hst
theorem op_notIn_seqK {X : Cx} (K : PySem.W.Frag) (h : X.K = K := by rfl) : OpR X (compareOp .NotIn) (rIn K true) := by subst h; exact op_notIn_seq
structure Cal (P : Program) (w : World) (K : PySem.W.Frag) (mg : Str → Option Value) (base : Heap) (x : Str) (n : Nat) (ps : List Str) (sp : Sp) : Prop where
  ex : ∃ f fd, mg x = some (.ref f) ∧ FnOk P w K mg base CX0 n f fd ps sp ∧ PySem.W.keepIn K (.ref f) = true ∧ Binds K fd ps []
end K27
end

section
set_option Elab.async false
set_option linter.all false
set_option maxRecDepth 100000
set_option maxHeartbeats 4000000
/-! what draws -/
namespace K27
open PySem L2 KZ
abbrev sWell : Stmt := top 24
abbrev sDraw : Stmt := top 25
abbrev sOne : Stmt := top 26
/-- at p: what draws; its cells at c -/
structure PenAt (H : Hp) (p c : Addr) (cells : List Int) (n : Nat) : Prop where
  ex : ∃ at_ great : Int, H p = some (.lst [.ref c, .int at_, .int great]) ∧ 0 ≤ at_ ∧ at_ ≤ n ∧ 0 ≤ great
  cs : H c = some (.lst (cells.map V.int))
  few : cells.length ≤ 63
  ne : p ≠ c
theorem PenAt.mono {H H' : Hp} {p c : Addr} {cells : List Int} {n m : Nat} (h : PenAt H p c cells n) (e : Same H H') (hn : n ≤ m) : PenAt H' p c cells m := by
  obtain ⟨a, g, h1, h2, h3, h4⟩ := h.ex
  exact ⟨⟨a, g, e _ _ h1, h2, by omega, h4⟩, e _ _ h.cs, h.few, h.ne⟩
/-- all but p is as it was -/
def Kept (p : Addr) (H H' : Hp) : Prop := ∀ b o, b ≠ p → H b = some o → H' b = some o
theorem Kept.trans {p : Addr} {H H1 H2 : Hp} (a : Kept p H H1) (b : Kept p H1 H2) : Kept p H H2 := fun x o hx e => b x o hx (a x o hx e)
theorem Kept.of {p : Addr} {H H1 : Hp} (a : Same H H1) : Kept p H H1 := fun x o _ e => a x o e
def spPen (K : PySem.W.Frag) : Sp := fun vs H Q _ => ∃ (a : Addr) (ns : List Int), vs = [.ref a] ∧ SqL K H a (ns.map V.int) ∧ ns.length ≤ 63 ∧
  ∀ p c cells H', H p = none → H c = none → Same H H' → PenAt H' p c cells 0 → Q (.ref p) H'
def spDraw : Sp := fun vs H Q _ => ∃ (p c : Addr) (cells : List Int) (n : Nat) (m : Int), vs = [.ref p, .int m] ∧ PenAt H p c cells n ∧ n ≤ 10000 ∧ 0 < m ∧ m ≤ 1000000000000 ∧
  ∀ r H', 0 ≤ r → r < m → PenAt H' p c cells (n + 1) → Kept p H H' → Q (.int r) H'
theorem cut63 (ns : List Int) : ∃ cells : List Int, cutV (ns.map V.int) none (some 63) = cells.map V.int ∧ cells.length ≤ ns.length := by
  refine ⟨(ns.drop (HT.sIx (ns.map V.int).length 0 none)).take (HT.sIx (ns.map V.int).length (ns.map V.int).length (some 63) - HT.sIx (ns.map V.int).length 0 none), ?_, ?_⟩
  · unfold cutV
    rw [List.map_take, List.map_drop]
  · rw [List.length_take, List.length_drop]
    omega
section
variable {P : Program} {w : World} {K : PySem.W.Frag} {mg : Str → Option Value} {base : Heap}
theorem scWell : FnScope ["script", "cell"] ["script"] (defScope sWell) := ⟨rfl, rfl, rfl, by decide +kernel, rfl, by decide +kernel, by decide +kernel⟩
theorem ok_well {f : Addr} {fd : FuncData} (F : Fun K "_law_well" "_law_well" sWell f fd) (T : B1 mg) : FnOk P w K mg base CX0 1 f fd ["script"] (spPen K) := by
  refine F.ok scWell (fun vs H Q E h => ?_) (fun cdv A outer s H vs Q E hr h => ?_)
  · obtain ⟨a, ns, rfl, _⟩ := h
    rfl
  · obtain ⟨a, ns, rfl, hs, hlN, q⟩ := h
    refine ⟨_, (pss_one (ps_ret (pe_lst (pa_cons (pe_lc (own := [("cell", 1)]) (g := gName 1) (tt := tYes) (by rfl) scWell.nd (pi_list (pe_slice sl_list (pv 0) po_none (po_some pe_int))) (blkOk_by (own := [("cell", 1)]) (N := ["script", "cell"]) (sc := defScope sWell) (by decide +kernel)) (fun _ _ _ _ _ => pg_name (i := 1) scWell.nd rfl (Or.inl rfl)) (fun _ _ _ _ _ => pts_nil) (fun _ _ _ _ _ => pe_callTy call_int1 (by rfl) T.int (by decide +kernel) (pa_cons (pv 1) pa_nil))) (pa_cons pe_int (pa_cons pe_int pa_nil)))))), ?_⟩
    obtain ⟨cells, hc, hcl⟩ := cut63 ns
    refine ⟨_, rfl, 63, rfl, a, _, rfl, hs, fun l hn => ⟨l, rfl, ⟨_, SqL.of upd_same⟩, fun D hD => ?_⟩⟩
    rw [hc] at hD ⊢
    have hl : (upd H l (.lst (cells.map V.int))) l = some (.lst (cells.map V.int)) := upd_same
    have hlD : l ≠ D := fun z => by
      rw [← z, upd_same] at hD
      cases hD
    have hDn : H D = none := by
      rw [upd_ne (Ne.symm hlD)] at hD
      exact hD
    have s1 : Same H (upd H l (.lst (cells.map V.int))) := same_new hn
    generalize upd H l (.lst (cells.map V.int)) = H1 at hD hl s1 ⊢
    refine lc_list (K := K) (a := l) (xs := cells.map V.int) (fun i H' => H' = upd H1 D (.lst ((cells.take i).map V.int))) (by simp) (fun i H' _ e => ?_) (fun i x H' hi e => ⟨rfl, yes_go ?_⟩) (fun H' e => ?_)
    · rw [e]
      exact SqL.of ((same_new hD) _ _ hl)
    · rw [List.getElem?_map] at hi
      cases hci : cells[i]? with
      | none => rw [hci] at hi; cases hi
      | some z =>
        rw [hci] at hi
        cases hi
        refine ⟨_, rfl, .inl ⟨z, rfl, (cells.take i).map V.int, by rw [e, upd_same], ?_, ?_⟩⟩
        · have h1 : (cells.take i).length ≤ 63 := by rw [List.length_take]; omega
          rw [List.length_map]
          exact Nat.lt_of_le_of_lt h1 (by decide)
        · rw [e, upd_upd, List.take_add_one, hci]
          simp
    · rw [List.length_map, List.take_length] at e
      subst e
      refine ⟨by show 3 ≤ sizeLine; decide, fun p hp => ?_⟩
      have hpD : p ≠ D := fun z => by
        rw [z, upd_same] at hp
        cases hp
      have hpn : H p = none := by
        rw [upd_ne hpD] at hp
        exact s1.free hp
      exact q p D cells _ hpn hDn (s1.trans ((same_new hD).trans (same_new hp))) ⟨⟨0, 0, upd_same, by decide, by decide, by decide⟩, by rw [upd_ne (Ne.symm hpD), upd_same], Nat.le_trans hcl hlN, hpD⟩
theorem dp_ints {H : Hp} : ∀ (l : List Int), DpAll K H (l.map V.int) (l.map PyData.int)
  | [] => .nil
  | i :: r => .cons (.int i) (dp_ints r)
theorem can_ints : ∀ l : List Int, PyData.canLayAll0 (l.map PyData.int) = true
  | [] => rfl
  | i :: r => by
    show (PyData.canLay0 (.int i) && PyData.canLayAll0 (r.map PyData.int)) = true
    rw [can_ints r]
    rfl
theorem depth_ints : ∀ l : List Int, PyData.depthAll (l.map PyData.int) = 0
  | [] => rfl
  | i :: r => by
    show max (PyData.depth (.int i)) (PyData.depthAll (r.map PyData.int)) = 0
    rw [depth_ints r]
    rfl
theorem shaped_ints (l : List Int) : SeqAt.shaped (.list (l.map PyData.int)) = true := by
  unfold SeqAt.shaped
  have h1 : PyData.canLay0 (.list (l.map PyData.int)) = true := can_ints l
  have h2 : PyData.depth (.list (l.map PyData.int)) ≤ 64 := by
    show PyData.depthAll (l.map PyData.int) + 1 ≤ 64
    rw [depth_ints]
    decide
  rw [h1, decide_eq_true h2]
  rfl
theorem eqv_nil (l : List Int) : PyData.eqv (.list (l.map PyData.int)) (.list []) = l.isEmpty := by
  cases l <;> rfl
theorem scDraw : FnScope ["well", "many", "rest", "turn", "cell", "mixed"] ["well", "many"] (defScope sDraw) := ⟨rfl, rfl, rfl, by decide +kernel, rfl, by decide +kernel, by decide +kernel⟩
theorem pow_b {x : Int} {b : Nat} (h1 : 0 ≤ x) (h2 : x < 2 ^ 63) : CPow x (b : Int) ↔ (b ≤ 1000000) := by
  unfold CPow
  constructor
  · rintro ⟨_, h, _⟩
    omega
  · intro h
    refine ⟨by omega, by omega, ?_⟩
    omega
theorem if_setI {b : Bool} {te : TE} {i : Nat} {D : Ends} {σ : L2.St} {H : Hp} (h1 : b = true → ∀ Q : VK, (∀ z : Int, Q (.int z) H) → te σ H Q) (h0 : ∃ z0 : Int, σ = σ.set i (some (.int z0))) (rest : ∀ z : Int, D.nx (σ.set i (some (.int z))) H) :
    if b = true then tAsg te (gName i) D σ H else D.nx σ H := by
  cases b with
  | true => exact iteT (h1 rfl _ fun z => rest z)
  | false =>
    obtain ⟨z0, e⟩ := h0
    rw [e]
    exact iteF (rest z0)
theorem if_and {t u : TT} {s1 s2 : TS} {D : Ends} {σ : L2.St} {H : Hp} (b1 b2 : Bool) (h1 : ∀ Q : Bool → Hp → Prop, Q b1 H → t σ H Q) (h2 : b1 = true → ∀ Q : Bool → Hp → Prop, Q b2 H → u σ H Q) (tail : s2 D σ H) (go : b1 = true → b2 = true → s1 { D with nx := s2 D } σ H) :
    tSeq (tIfS (tAnd t u) s1 tNext) s2 D σ H := by
  refine h1 _ ?_
  cases b1 with
  | false => exact iteF (iteF tail)
  | true =>
    refine iteT (h2 rfl _ ?_)
    cases b2 with
    | false => exact iteF tail
    | true => exact iteT (go rfl rfl)
theorem ok_draw {f : Addr} {fd : FuncData} (F : Fun K "_law_draw" "_law_draw" sDraw f fd) (T : B1 mg) : FnOk P w K mg base CX0 1 f fd ["well", "many"] spDraw := by
  refine F.ok scDraw (fun vs H Q E h => ?_) (fun cdv A outer s H vs Q E hr h => ?_)
  · obtain ⟨p, c, cells, n, m, rfl, _⟩ := h
    rfl
  · obtain ⟨p, c, cells, n, m, rfl, pen, hn, hm0, hm1, q⟩ := h
    obtain ⟨at_, gr, hp, ha0, ha1, hg0⟩ := pen.ex
    have hcs := pen.cs
    have npc := pen.ne
    have hlog : m.natAbs.log2 < 9000 := (Nat.log2_lt (by omega)).mpr (Nat.lt_of_lt_of_le (show m.natAbs < 2 ^ 40 by omega) (Nat.pow_le_pow_right (by decide) (by decide)))
    refine ⟨_, (pss_cons (ps_if (pt_cmpR op_gt (pe_ix ix_list (pv 0) pe_int (fun _ _ => rfl)) pe_int (nomark _))
(pss_cons (ps_set (i := 2) scDraw.nd rfl (Or.inl rfl) (pe_ix ix_list (pv 0) pe_int (fun _ _ => rfl)))
(pss_cons (ps_asg (pe_op op_fdivW (pe_callTy call_int1 (by rfl) T.int (by decide +kernel) (pa_cons (pv 2) pa_nil)) (pv 1)) (pg_sub (pv 0) pe_int set_list))
(pss_one (ps_ret (pe_op op_mod (pe_callTy call_int1 (by rfl) T.int (by decide +kernel) (pa_cons (pv 2) pa_nil)) (pv 1))))))
pss_nil)
(pss_cons (ps_set (i := 3) scDraw.nd rfl (Or.inl rfl) (pe_ix ix_list (pv 0) pe_int (fun _ _ => rfl)))
(pss_cons (ps_asg (pe_op op_add (pv 3) pe_int) (pg_sub (pv 0) pe_int set_list))
(pss_cons (ps_set (i := 4) scDraw.nd rfl (Or.inl rfl) (pe_op op_add (pe_op op_mul pe_int (pv 3)) pe_int))
(pss_cons (ps_if (pt_cmpR (op_neD hr.units) (pe_ix ix_list (pv 0) pe_int (fun _ _ => rfl)) (pe_lst pa_nil) (nomark _))
(pss_one (ps_set (i := 4) scDraw.nd rfl (Or.inl rfl) (pe_ix ix_list (pe_ix ix_list (pv 0) pe_int (fun _ _ => rfl)) (pe_op op_mod (pe_callTy call_int1 (by rfl) T.int (by decide +kernel) (pa_cons (pv 3) pa_nil)) (pe_callB call_len (by rfl) T.len PySem.boot_len (pa_cons (pe_ix ix_list (pv 0) pe_int (fun _ _ => rfl)) pa_nil))) (fun _ _ => rfl))))
pss_nil)
(pss_cons (ps_if (PW.pt (pw_and (pt_cmpR op_lt (pv 3) (pe_callB call_len (by rfl) T.len PySem.boot_len (pa_cons (pe_ix ix_list (pv 0) pe_int (fun _ _ => rfl)) pa_nil)) (nomark _)) (pw_and1 (pt_cmpR op_ge (pe_callB call_abs (by rfl) T.abs (by decide +kernel) (pa_cons (pv 4) pa_nil)) (pe_op op_pow pe_int pe_int) (nomark _)))))
(pss_cons (ps_set (i := 2) scDraw.nd rfl (Or.inl rfl) (pe_op op_add (pe_op op_mul pe_int (pe_op op_sub (pe_callB call_abs (by rfl) T.abs (by decide +kernel) (pa_cons (pv 4) pa_nil)) (pe_op op_pow pe_int pe_int))) (pe_callTy call_int1 (by rfl) T.int (by decide +kernel) (pa_cons (pe_cmpR op_lt (pv 4) pe_int (nomark _)) pa_nil))))
(pss_cons (ps_asg (pe_op op_fdivW (pe_callTy call_int1 (by rfl) T.int (by decide +kernel) (pa_cons (pv 2) pa_nil)) (pv 1)) (pg_sub (pv 0) pe_int set_list))
(pss_one (ps_ret (pe_op op_mod (pe_callTy call_int1 (by rfl) T.int (by decide +kernel) (pa_cons (pv 2) pa_nil)) (pv 1))))))
pss_nil)
(pss_cons (ps_set (i := 5) scDraw.nd rfl (Or.inl rfl) (pe_op op_mod (pe_callTy call_int1 (by rfl) T.int (by decide +kernel) (pa_cons (pe_op op_pow (pe_op op_add (pe_op op_add (pe_op op_mod (pe_callTy call_int1 (by rfl) T.int (by decide +kernel) (pa_cons (pv 4) pa_nil)) pe_int) (pe_op op_mul pe_int (pv 3))) pe_int) pe_int) pa_nil)) pe_int))
(pss_cons (ps_set (i := 5) scDraw.nd rfl (Or.inl rfl) (pe_op op_mod (pe_callTy call_int1 (by rfl) T.int (by decide +kernel) (pa_cons (pe_op op_pow (pe_op op_add (pe_op op_add (pe_op op_mul (pv 5) (pe_op op_add (pe_op op_mul pe_int (pv 3)) pe_int)) (pe_op op_mul (pe_op op_mul pe_int (pv 3)) (pv 3))) pe_int) pe_int) pa_nil)) pe_int))
(pss_one (ps_ret (pe_op op_mod (pe_callTy call_int1 (by rfl) T.int (by decide +kernel) (pa_cons (pe_op op_fdiv (pv 5) pe_int) pa_nil)) (pv 1)))))))))))), ?_⟩
    have i2 : atI [V.ref c, V.int at_, V.int gr] 2 = some (V.int gr) := rfl
    have i1 : atI [V.ref c, V.int at_, V.int gr] 1 = some (V.int at_) := rfl
    have i0 : ∀ z, atI [V.ref c, V.int z, V.int gr] 0 = some (V.ref c) := fun _ => rfl
    refine ⟨_, rfl, p, _, 2, _, rfl, rfl, SqL.of hp, i2, gr, 0, rfl, rfl, _, rfl, ?_⟩
    refine ite2 (fun hg => ?_) (fun hg => ?_)
    · have hg' : 0 < gr := of_decide_eq_true hg
      refine ⟨_, rfl, p, _, 2, _, rfl, rfl, SqL.of hp, i2, _, rfl, .inl ⟨gr, rfl, _, rfl, gr, m, rfl, rfl, ⟨hm0, hlog⟩, _, rfl, p, _, 2, 2, rfl, rfl, hp, rfl, _, rfl, .inl ⟨gr, rfl, _, rfl, gr, m, rfl, rfl, hm0, ?_⟩⟩⟩
      refine q (gr % m) _ (Int.emod_nonneg _ (by omega)) (Int.emod_lt_of_pos _ hm0) ⟨⟨at_, gr / m, upd_same, ha0, by omega, Int.ediv_nonneg hg0 (by omega)⟩, by rw [upd_ne (Ne.symm npc)]; exact hcs, pen.few, npc⟩ (fun b o hb e => by rw [upd_ne hb]; exact e)
    · have hg' : gr = 0 := by
        have : ¬ 0 < gr := fun z => hg (decide_eq_true z)
        omega
      refine ⟨_, rfl, p, _, 1, _, rfl, rfl, SqL.of hp, i1, ?_⟩
      refine ⟨_, rfl, at_, 1, rfl, rfl, _, rfl, p, _, 1, 1, rfl, rfl, hp, rfl, ?_⟩
      obtain ⟨H1, hH1⟩ : ∃ H1, H1 = upd H p (.lst [V.ref c, V.int (at_ + 1), V.int gr]) := ⟨_, rfl⟩
      have h1p : H1 p = some (.lst [V.ref c, V.int (at_ + 1), V.int gr]) := by rw [hH1, upd_same]
      have h1c : H1 c = some (.lst (cells.map V.int)) := by rw [hH1, upd_ne (Ne.symm npc)]; exact hcs
      have k1 : Kept p H H1 := fun b o hb e => by rw [hH1, upd_ne hb]; exact e
      show _
      rw [show upd H p (HO.lst ([V.ref c, V.int at_, V.int gr].set 1 (V.int (at_ + 1)))) = H1 from hH1.symm]
      refine ⟨_, rfl, 58889, at_, rfl, rfl, .inl ⟨by decide, by decide⟩, _, _, rfl, rfl, ?_⟩
      refine ⟨_, rfl, p, _, 0, _, rfl, rfl, SqL.of h1p, rfl, Nat.zero_le _, fun l hl => ?_⟩
      have k2 : Same H1 (upd H1 l (.lst [])) := same_new hl
      refine ⟨_, _, Dp.lst (SqL.of (k2 _ _ h1c)) (dp_ints cells), Dp.lst (SqL.of upd_same) .nil, shaped_ints cells, by decide +kernel, _, rfl, ?_⟩
      -- behind the cell is taken
      obtain ⟨H2, hH2⟩ : ∃ H2, H2 = upd H1 l (.lst []) := ⟨_, rfl⟩
      rw [← hH2] at k2 ⊢
      have h2p := k2 _ _ h1p
      have h2c := k2 _ _ h1c
      have k3 : Kept p H H2 := k1.trans (Kept.of k2)
      have fin : ∀ (gr' : Int) (H3 : Hp), 0 ≤ gr' → H3 = upd H2 p (.lst [V.ref c, V.int (at_ + 1), V.int gr']) ∨ (H3 = H2 ∧ gr' = gr) → PenAt H3 p c cells (n + 1) ∧ Kept p H H3 := fun gr' H3 g0 e => by
        rcases e with e | ⟨e, e'⟩
        · rw [e]
          exact ⟨⟨⟨_, gr', upd_same, by omega, by omega, g0⟩, by rw [upd_ne (Ne.symm npc)]; exact h2c, pen.few, npc⟩, fun b o hb z => by rw [upd_ne hb]; exact k3 b o hb z⟩
        · rw [e]
          exact ⟨⟨⟨_, gr, h2p, by omega, by omega, hg0⟩, h2c, pen.few, npc⟩, k3⟩
      refine if_setI (fun hb Q' k => ?_) ⟨_, rfl⟩ (fun z => ?_)
      · have hne : cells ≠ [] := fun e => by
          rw [eqv_nil, e] at hb
          cases hb
        have hl0 : 0 < cells.length := List.length_pos_iff.mpr hne
        have hr0 : 0 ≤ at_ % (cells.length : Int) := Int.emod_nonneg _ (by omega)
        have hr1 : at_ % (cells.length : Int) < cells.length := Int.emod_lt_of_pos _ (by omega)
        obtain ⟨j, hj⟩ : ∃ j : Nat, at_ % (cells.length : Int) = j := ⟨_, (Int.toNat_of_nonneg hr0).symm⟩
        have hjl : j < cells.length := by omega
        refine ⟨_, rfl, p, _, 0, _, rfl, rfl, SqL.of h2p, rfl, _, rfl, .inl ⟨at_, rfl, _, rfl, p, _, 0, _, rfl, rfl, SqL.of h2p, rfl, .ref c, cells.length, rfl, .inl ⟨_, SqL.of h2c, by rw [List.length_map]⟩, at_, cells.length, rfl, rfl, by omega, ?_⟩⟩
        refine ⟨c, _, _, .int (cells[j]'hjl), rfl, rfl, SqL.of h2c, ?_, k _⟩
        rw [hj]
        exact atI_nat (by simp [hjl])
      · dsimp only
        refine if_and (decide (at_ < (cells.length : Int))) (decide ((10 : Int) ^ (18 : Int).toNat ≤ (if z < 0 then -z else z))) (fun Q' k => ?_) (fun _ Q' k => ?_) ?_ (fun _ hbig => ?_)
        · exact ⟨_, rfl, _, rfl, p, _, 0, _, rfl, rfl, SqL.of h2p, rfl, .ref c, cells.length, rfl, .inl ⟨_, SqL.of h2c, by rw [List.length_map]⟩, at_, cells.length, rfl, rfl, _, rfl, k⟩
        · exact ⟨_, rfl, z, rfl, 10, 18, rfl, rfl, ⟨by decide, by decide, by decide⟩, _, _, rfl, rfl, _, rfl, k⟩
        · have b0 : 0 ≤ z % 2147483587 := Int.emod_nonneg _ (by decide)
          have b1 : z % 2147483587 < 2147483587 := Int.emod_lt_of_pos _ (by decide)
          have b2 : at_ ≤ 10000 := by omega
          refine ⟨_, rfl, .inl ⟨z, rfl, z, 2147483587, rfl, rfl, (show (0 : Int) < 2147483587 by decide), _, rfl, 47717, at_, rfl, rfl, .inl ⟨by decide, by decide⟩, _, _, rfl, rfl, _, _, rfl, rfl, _, 5, rfl, rfl, ⟨by decide, by decide, by omega⟩, .inl ⟨_, rfl, _, 2147483549, rfl, rfl, (show (0 : Int) < 2147483549 by decide), ?_⟩⟩⟩
          dsimp only
          generalize (z % 2147483587 + 47717 * at_ + 3469) ^ (5 : Int).toNat = big1
          have c0 : 0 ≤ big1 % 2147483549 := Int.emod_nonneg _ (by decide)
          have c1 : big1 % 2147483549 < 2147483549 := Int.emod_lt_of_pos _ (by decide)
          generalize hmx : big1 % 2147483549 = mx at c0 c1 ⊢
          have c2 : 0 ≤ mx * (2 * at_ + 1237) := Int.mul_nonneg c0 (by omega)
          have c3 : mx * (2 * at_ + 1237) ≤ 2147483549 * 21237 := Int.mul_le_mul (by omega) (by omega) (by omega) (by decide)
          have c4 : 0 ≤ 58889 * at_ * at_ := Int.mul_nonneg (by omega) ha0
          have c5 : 58889 * at_ * at_ ≤ 588890000 * 10000 := Int.mul_le_mul (by omega) b2 ha0 (by decide)
          refine ⟨_, rfl, _, rfl, 2, at_, rfl, rfl, .inl ⟨by decide, by decide⟩, _, _, rfl, rfl, mx, _, rfl, rfl, .inl ⟨by omega, by omega⟩, _, rfl, 58889, at_, rfl, rfl, .inl ⟨by decide, by decide⟩, _, rfl, _, at_, rfl, rfl, .inl ⟨by omega, by omega⟩, _, _, rfl, rfl, _, _, rfl, rfl, _, 3, rfl, rfl, ⟨by decide, by decide, by omega⟩, .inl ⟨_, rfl, _, 2147483629, rfl, rfl, (show (0 : Int) < 2147483629 by decide), ?_⟩⟩
          dsimp only
          generalize (mx * (2 * at_ + 1237) + 58889 * at_ * at_ + 69127) ^ (3 : Int).toNat = big2
          refine ⟨_, rfl, _, 64, rfl, rfl, ⟨by decide, by decide⟩, .inl ⟨_, rfl, _, rfl, _, m, rfl, rfl, hm0, ?_⟩⟩
          obtain ⟨f1, f2⟩ := fin gr H2 hg0 (.inr ⟨rfl, rfl⟩)
          exact q _ _ (Int.emod_nonneg _ (by omega)) (Int.emod_lt_of_pos _ hm0) f1 f2
        · have hz0 : ∀ b : Bool, (0 : Int) ≤ 2 * ((if z < 0 then -z else z) - 10 ^ (18 : Int).toNat) + (if b = true then 1 else 0) := fun b => by
            have h1 : (10 : Int) ^ (18 : Int).toNat ≤ (if z < 0 then -z else z) := of_decide_eq_true hbig
            have h2 : (0 : Int) ≤ (if b = true then 1 else 0) := by cases b <;> decide
            omega
          refine ⟨_, rfl, z, rfl, 10, 18, rfl, rfl, ⟨by decide, by decide, by decide⟩, _, _, rfl, rfl, 2, _, rfl, rfl, .inl ⟨by decide, by decide⟩, _, rfl, z, 0, rfl, rfl, .inr ⟨_, rfl, _, _, rfl, rfl, ?_⟩⟩
          dsimp only
          have hz1 := hz0 (decide (z < 0))
          generalize 2 * ((if z < 0 then -z else z) - 10 ^ (18 : Int).toNat) + (if decide (z < 0) = true then 1 else 0) = gg at hz1 ⊢
          refine ⟨_, rfl, .inl ⟨gg, rfl, _, rfl, gg, m, rfl, rfl, ⟨hm0, hlog⟩, _, rfl, p, _, 2, 2, rfl, rfl, h2p, rfl, _, rfl, .inl ⟨gg, rfl, _, rfl, gg, m, rfl, rfl, hm0, ?_⟩⟩⟩
          obtain ⟨f1, f2⟩ := fin (gg / m) _ (Int.ediv_nonneg hz1 (by omega)) (.inl rfl)
          exact q _ _ (Int.emod_nonneg _ (by omega)) (Int.emod_lt_of_pos _ hm0) f1 f2
theorem scOne : FnScope ["well", "some"] ["well", "some"] (defScope sOne) := ⟨rfl, rfl, rfl, by decide +kernel, rfl, by decide +kernel, by decide +kernel⟩
def spOne : Sp := fun vs H Q _ => ∃ (p c s : Addr) (cells : List Int) (n : Nat) (xs : List V), vs = [.ref p, .ref s] ∧ PenAt H p c cells n ∧ n ≤ 10000 ∧ H s = some (.lst xs) ∧ s ≠ p ∧ 0 < xs.length ∧ xs.length ≤ 100 ∧
  ∀ (i : Nat) (x : V) H', xs[i]? = some x → PenAt H' p c cells (n + 1) → Kept p H H' → Q x H'
theorem ok_one {f fD : Addr} {fd dD : FuncData} (F : Fun K "_law_one" "_law_one" sOne f fd) (T : B1 mg) (gD : mg "_law_draw" = some (.ref fD)) (FD : Fun K "_law_draw" "_law_draw" sDraw fD dD) (bD : Binds K dD ["well", "many"] []) : FnOk P w K mg base CX0 2 f fd ["well", "some"] spOne := by
  have GD : FnOk P w K mg base CX0 1 fD dD ["well", "many"] spDraw := ok_draw FD T
  refine F.ok scOne (fun vs H Q E h => ?_) (fun cdv A outer s H vs Q E hr h => ?_)
  · obtain ⟨p, c, s, cells, n, xs, rfl, _⟩ := h
    rfl
  · obtain ⟨p, c, s, cells, n, xs, rfl, pen, hn, hs, nsp, hx0, hx1, q⟩ := h
    refine ⟨_, (pss_one (ps_ret (pe_ix (ix_seqK K) (pv 1) (pe_call GD hr (by rfl) gD FD.kp bD .nil pass0 (pa_cons (pv 0) (pa_cons (pe_callB call_len (by rfl) T.len PySem.boot_len (pa_cons (pv 1) pa_nil)) pa_nil))) (fun _ _ => rfl)))), ?_⟩
    refine ⟨_, rfl, _, rfl, _, rfl, .ref s, xs.length, rfl, .inl ⟨xs, SqL.of hs, rfl⟩, p, c, cells, n, xs.length, rfl, pen, hn, by omega, by omega, fun r H' r0 r1 pen' kp => ?_⟩
    obtain ⟨j, hj⟩ : ∃ j : Nat, r = j := ⟨_, (Int.toNat_of_nonneg r0).symm⟩
    have hjl : j < xs.length := by omega
    have e : xs[j]? = some (xs[j]'hjl) := List.getElem?_eq_getElem hjl
    exact Sq.ix (.inl (SqL.of (kp s _ nsp hs))) (by rw [hj]; exact atI_nat e) (q j _ H' e pen' kp)
end
end K27
end

section
set_option Elab.async false
set_option linter.all false
set_option maxRecDepth 100000
set_option maxHeartbeats 4000000
/-! classes whose __init__ copies each of what it is told -/
namespace K27
open PySem L2 KZ
/-- what a field is told: a datum; a tuple of such things as copied gives back -/
inductive FV where
  | dat (d : PyData)
  | its (xs : List V)
def LeafT (K : PySem.W.Frag) (H : Hp) (x : V) : Prop := ∃ t, TyX K H x t ∧ PySem.W.kitOne K t (.type "list") = some false ∧ PySem.W.kitOne K t (.type "tuple") = some false ∧ PySem.W.kitOne K t (.type "dict") = some false
theorem LeafT.mono {K : PySem.W.Frag} {H H' : Hp} {x : V} (s : Same H H') (h : LeafT K H x) : LeafT K H' x := let ⟨t, a, b⟩ := h; ⟨t, tyX_mono s a, b⟩
def FvAt (K : PySem.W.Frag) (G : Hp) (v : V) : FV → Prop
  | .dat d => Dv K G v d
  | .its xs => ∃ t, v = .ref t ∧ G t = some (.tup xs)
theorem FvAt.mono {K : PySem.W.Frag} {G G' : Hp} (s : Same G G') {v : V} {f : FV} (h : FvAt K G v f) : FvAt K G' v f := by
  cases f with
  | dat d => exact Dv.mono s h
  | its xs => exact let ⟨t, e, z⟩ := h; ⟨t, e, s _ _ z⟩
def FvOk (K : PySem.W.Frag) (n : Nat) (G : Hp) : FV → Prop
  | .dat d => Cp n d
  | .its xs => xs.length ≤ 1000 ∧ ∀ x ∈ xs, LeafT K G x
/-- the copy stands apart -/
def spCopiedF (n : Nat) (K : PySem.W.Frag) : Sp := fun vs H Q _ => ∃ v f G, vs = [v] ∧ FvOk K n G f ∧ Same G H ∧ NoFrz G ∧ FvAt K G v f ∧ ∀ v' N H', Off H N → NoFrz N → Same N H' → Same H H' → FvAt K N v' f → Q v' H'
def spLeaf (K : PySem.W.Frag) : Sp := fun vs H Q _ => ∃ v, vs = [v] ∧ LeafT K H v ∧ Q v H
def spITup (K : PySem.W.Frag) : Sp := fun vs H Q _ => ∃ t xs, vs = [.ref t] ∧ H t = some (.tup xs) ∧ xs.length ≤ 1000 ∧ (∀ x ∈ xs, LeafT K H x) ∧ ∀ p H', H p = none → Same H H' → H' p = some (.tup xs) → Q (.ref p) H'
section
variable {P : Program} {w : World} {K : PySem.W.Frag} {mg : Str → Option Value} {base : Heap} {fC : Addr} {dC : FuncData}
theorem ok_copiedL {f : Addr} {fd : FuncData} (F : Fun K "copied" "copied" sCopied f fd) (T : B0 mg) : FnOk P w K mg base CX0 1 f fd ["value"] (spLeaf K) := by
  refine F.ok scCopied (fun vs H Q E h => ?_) (fun cdv A outer s H vs Q E hr h => ?_)
  · obtain ⟨v, rfl, _⟩ := h
    rfl
  · obtain ⟨v, rfl, ⟨t, ty, k1, k2, k3⟩, q⟩ := h
    refine ⟨_, pss_cons (ps_if (pt_val (pe_callB (call_isiQ K) (by rfl) T.isi (by decide +kernel) (pa_cons (pv 0) (pa_cons (pe_bltn (v := .ty "list") (by rfl) T.list (by decide +kernel) rfl) pa_nil)))) (pss_one ps_never) pss_nil)
        (pss_cons (ps_if (pt_val (pe_callB (call_isiQ K) (by rfl) T.isi (by decide +kernel) (pa_cons (pv 0) (pa_cons (pe_bltn (v := .ty "tuple") (by rfl) T.tuple (by decide +kernel) rfl) pa_nil)))) (pss_one ps_never) pss_nil)
        (pss_cons (ps_if (pt_val (pe_callB (call_isiQ K) (by rfl) T.isi (by decide +kernel) (pa_cons (pv 0) (pa_cons (pe_bltn (v := .ty "dict") (by rfl) T.dict (by decide +kernel) rfl) pa_nil)))) (pss_one ps_never) pss_nil)
        (pss_one (ps_ret (pv 0))))), ?_⟩
    refine ⟨v, rfl, v, _, _, _, false, rfl, .ty "list", ty, k1, _, rfl, ?_⟩
    refine iteF ⟨v, rfl, v, _, _, _, false, rfl, .ty "tuple", ty, k2, _, rfl, ?_⟩
    refine iteF ⟨v, rfl, v, _, _, _, false, rfl, .ty "dict", ty, k3, _, rfl, ?_⟩
    exact iteF ⟨v, rfl, q⟩
theorem ok_copiedI {f : Addr} {fd : FuncData} (F : Fun K "copied" "copied" sCopied f fd) (T : B0 mg) (hm : mg "copied" = some (.ref f)) (b : Binds K fd ["value"] []) : FnOk P w K mg base CX0 2 f fd ["value"] (spITup K) := by
  have ih : FnOk P w K mg base CX0 1 f fd ["value"] (spLeaf K) := ok_copiedL F T
  refine F.ok scCopied (fun vs H Q E h => ?_) (fun cdv A outer s H vs Q E hr h => ?_)
  · obtain ⟨t, xs, rfl, _⟩ := h
    rfl
  · obtain ⟨t, xs, rfl, ht, hz, hx, q⟩ := h
    refine ⟨_, pss_cons (ps_if (pt_val (pe_callB (call_isiQ K) (by rfl) T.isi (by decide +kernel) (pa_cons (pv 0) (pa_cons (pe_bltn (v := .ty "list") (by rfl) T.list (by decide +kernel) rfl) pa_nil)))) (pss_one ps_never) pss_nil)
        (pss_cons (ps_if (pt_val (pe_callB (call_isiQ K) (by rfl) T.isi (by decide +kernel) (pa_cons (pv 0) (pa_cons (pe_bltn (v := .ty "tuple") (by rfl) T.tuple (by decide +kernel) rfl) pa_nil))))
          (pss_one (ps_ret (pe_callTy call_tuple_of (by rfl) T.tuple (by decide +kernel) (pa_cons (pe_lc (own := [("part", 1)]) (g := gName 1) (tt := tYes) (by rfl) scCopied.nd (pi_tup (pv 0)) (blkOk_by (own := [("part", 1)]) (N := ["value", "part", "key"]) (sc := defScope sCopied) (by decide +kernel))
            (fun _ _ _ _ _ => pg_name (i := 1) scCopied.nd rfl (Or.inl rfl)) (fun _ _ _ _ _ => pts_nil) (fun _ _ _ _ _ => pe_call ih hr (by rfl) hm F.kp b .nil pass0 (pa_cons (pv 1) pa_nil))) pa_nil)))) pss_nil)
        (pss_cons ps_never (pss_one ps_never))), ?_⟩
    have tt : TyX K H (.ref t) (.type "tuple") := .base (.tup ht)
    have kT : PySem.W.kitOne K (.type "tuple") (.type "list") = some false := kit_d (K := K) (c := "list") (by decide) (.tuple [])
    have kTT : PySem.W.kitOne K (.type "tuple") (.type "tuple") = some true := kit_d (K := K) (c := "tuple") (by decide) (.tuple [])
    refine ⟨_, rfl, _, _, _, _, false, rfl, .ty "list", tt, kT, _, rfl, ?_⟩
    refine iteF ⟨_, rfl, _, _, _, _, true, rfl, .ty "tuple", tt, kTT, _, rfl, ?_⟩
    refine iteT ⟨_, rfl, t, rfl, ⟨xs, SqT.of ht⟩, fun D hD => lc_tup (K := K) (a := t) (xs := xs) (fun i H' => H' = upd H D (.lst (xs.take i))) (by simp) (fun i H' _ e => ?_) (fun i x H' hi e => ⟨rfl, yes_go ?_⟩) (fun H' e => ?_)⟩
    · rw [e]
      exact SqT.of ((same_new hD) _ _ ht)
    · subst e
      refine ⟨x, rfl, x, rfl, (hx x (List.mem_of_getElem? hi)).mono (same_new hD), _, upd_same, ?_, ?_⟩
      · rw [List.length_take]
        exact Nat.lt_of_le_of_lt (Nat.min_le_right _ _) (Nat.lt_of_le_of_lt hz (by decide))
      · rw [upd_upd, List.take_add_one, hi]
        simp
    · rw [List.take_length] at e
      subst e
      exact ⟨D, xs, rfl, .inl ⟨SqL.of upd_same, fun l hl => q l _ ((same_new hD).free hl) ((same_new hD).trans (same_new hl)) upd_same⟩⟩
theorem ok_copiedF {f : Addr} {fd : FuncData} (F : Fun K "copied" "copied" sCopied f fd) (T : B0 mg) (hm : mg "copied" = some (.ref f)) (b : Binds K fd ["value"] []) (n : Nat) : FnOk P w K mg base CX0 (n + 2) f fd ["value"] (spCopiedF (n + 1) K) := by
  have F1 : FnOk P w K mg base CX0 (n + 2) f fd ["value"] (spCopiedN (n + 1) K) := ok_copiedN F T hm b (n + 1)
  have F2 : FnOk P w K mg base CX0 (n + 2) f fd ["value"] (spITup K) := (ok_copiedI F T hm b).mono (by omega)
  have up : ∀ vs H Q E, spCopiedF (n + 1) K vs H Q E → spCopiedN (n + 1) K vs H Q E ∨ spITup K vs H Q E := fun vs H Q E ⟨v, f, G, e, ok, s, nf, at_, q⟩ => by
    cases f with
    | dat d => exact .inl ⟨v, d, G, e, ok, s, nf, at_, fun v' N H' a b c d' e' => q v' N H' a b c d' e'⟩
    | its xs =>
      obtain ⟨t, rfl, ht⟩ := at_
      refine .inr ⟨t, xs, e, s _ _ ht, ok.1, fun x hx => (ok.2 x hx).mono s, fun p H' hp s' h' => q (.ref p) (upd Nil p (.tup xs)) H' (fun b z => ?_) (fun b o kvs e => ?_) (fun b o e => ?_) s' ⟨p, rfl, upd_same⟩⟩
      · rw [upd_ne (fun y => z (by rw [y]; exact hp))]
        rfl
      · by_cases y : b = p
        · rw [y, upd_same] at e
          cases e
        · rw [upd_ne y] at e
          cases e
      · by_cases y : b = p
        · rw [y, upd_same] at e
          rw [y]
          exact h'.trans e
        · rw [upd_ne y] at e
          cases e
  refine ⟨fun vs H Q E h => (up vs H Q E h).elim (F1.len vs H Q E) (F2.len vs H Q E), fun A out s H ar us vs Q E hr e0 hb r h => ?_⟩
  rcases up vs H Q E h with h | h
  · exact F1.run A out s H ar us vs Q E hr e0 hb r h
  · exact F2.run A out s H ar us vs Q E hr e0 hb r h
end
/-- self.f = copied(f), for each f -/
inductive IniB : List Str → List Stmt → Prop
  | nil : IniB [] []
  | cons {f : Str} {p1 p2 p3 p4 p5 p6 : Pos} {fs : List Str} {b : List Stmt} : IniB fs b → IniB (f :: fs) (.Assign [.Attribute (.Name "self" p1) f p2] (.Call (.Name "copied" p3) [.Name f p4] [] p5) p6 :: b)
/-- H' holds all of H but what stood at a -/
def But (a : Addr) (H H' : Hp) : Prop := ∀ b o, b ≠ a → H b = some o → H' b = some o
abbrev Fvs (K : PySem.W.Frag) (G : Hp) (vs : List V) (fs : List FV) : Prop := Paired (FvAt K G) vs fs
theorem Fvs.mono {K : PySem.W.Frag} {G G' : Hp} (s : Same G G') {vs : List V} {fs : List FV} (h : Fvs K G vs fs) : Fvs K G' vs fs := Paired.mapP h fun _ _ z => FvAt.mono s z
def spInitN (n : Nat) (K : PySem.W.Frag) (C : Addr) (names : List Str) : Sp := fun vs H Q _ => ∃ a dx vals fvs G, vs = .ref a :: vals ∧ vals.length = names.length ∧ H a = some (.ins C dx []) ∧ (∀ fv ∈ fvs, FvOk K n G fv) ∧ Same G H ∧ NoFrz G ∧ G a = none ∧ Fvs K G vals fvs ∧
  ∀ vals' N H', Off H N → NoFrz N → Same N H' → But a H H' → H' a = some (.ins C dx (names.zip vals')) → Fvs K N vals' fvs → Q .non H'
theorem putF_new (f : Str) (v : V) : ∀ fs : List (Str × V), f ∉ fs.map Prod.fst → putF f v fs = fs ++ [(f, v)]
  | [], _ => rfl
  | (g, x) :: r, h => by
    have h1 : g ≠ f := fun e => h (by rw [e]; exact List.mem_cons_self)
    have h2 : f ∉ r.map Prod.fst := fun m => h (List.mem_cons_of_mem _ m)
    show (if g = f then (g, v) :: r else (g, x) :: putF f v r) = _
    rw [if_neg h1, putF_new f v r h2]
    rfl
section
variable {P : Program} {w : World} {K : PySem.W.Frag} {mg : Str → Option Value} {base : Heap} {fC C : Addr} {dC : FuncData}
/-- what stands behind i fields -/
structure IniAt (K : PySem.W.Frag) (C : Addr) (a dx : Addr) (names : List Str) (fvs : List FV) (H : Hp) (i : Nat) (H' : Hp) : Prop where
  ex : ∃ vals' N, vals'.length = i ∧ Off H N ∧ NoFrz N ∧ Same N H' ∧ But a H H' ∧ H' a = some (.ins C dx ((names.take i).zip vals')) ∧ Fvs K N vals' (fvs.take i)
theorem ini_run {X : Cx} {names : List Str} {n k : Nat} (hN : X.N = ("self" : Str) :: names) (hK : X.K = K) (GC : FnOk X.prog X.w K X.mg X.base CX0 k fC dC ["value"] (spCopiedF n K)) (hr : Room k X.A) (hg : Gl X "copied") (gC : X.mg "copied" = some (.ref fC)) (kC : PySem.W.keepIn K (.ref fC) = true) (bC : Binds K dC ["value"] [])
    (hs : Vis X.env.scope "self") (hx : ∀ x ∈ names, Vis X.env.scope x) (hd : ∀ x ∈ names, (x == ("__debug__" : Str)) = false ∧ (x == ("__classdict__" : Str)) = false) (cl : Cls K C) (no : ∀ x ∈ names, NoAttr K C x) (nd : names.Nodup) (lt : names.length < 1000) :
    ∀ (fs : List Str) (b : List Stmt) (i : Nat), IniB fs b → names.drop i = fs → i ≤ names.length → ∃ t, PSs X b t ∧ ∀ (D : Ends) (H H' G : Hp) (a dx : Addr) (vals : List V) (fvs : List FV), vals.length = names.length → H a = some (.ins C dx []) → (∀ fv ∈ fvs, FvOk K n G fv) → Same G H → G a = none → NoFrz G → Fvs K G vals fvs →
      IniAt K C a dx names fvs H i H' → (∀ H2, IniAt K C a dx names fvs H names.length H2 → D.nx ((V.ref a :: vals).map some) H2) → t D ((V.ref a :: vals).map some) H' := by
  subst hK
  intro fs
  induction fs with
  | nil =>
    intro b i hb hi hl
    cases hb
    refine ⟨_, pss_nil, fun D H H' G a dx vals fvs _ _ _ _ _ _ _ c q => q H' ?_⟩
    have h1 : names.length ≤ i := List.drop_eq_nil_iff.mp hi
    have h2 : i = names.length := by omega
    exact h2 ▸ c
  | cons f fs ih =>
    intro b i hb hi hl
    cases hb with
    | cons hb =>
      have il : i < names.length := by
        rcases Nat.lt_or_ge i names.length with h | h
        · exact h
        · rw [List.drop_of_length_le h] at hi; cases hi
      rw [List.drop_eq_getElem_cons il] at hi
      injection hi with ef er
      obtain ⟨t, ht, go⟩ := ih _ (i + 1) hb er il
      have fm : f ∈ names := ef ▸ List.getElem_mem il
      have hN0 : X.N[0]? = some ("self" : Str) := by rw [hN]; rfl
      have hNi : X.N[i + 1]? = some f := by rw [hN, List.getElem?_cons_succ, List.getElem?_eq_getElem il, ef]
      refine ⟨_, pss_cons (ps_fld (pe_var (i := 0) hN0 hs) (pe_call GC hr hg gC kC bC .nil pass0 (pa_cons (pe_var (i := i + 1) hNi (hx f fm) (hd f fm).1 (hd f fm).2) pa_nil)) rfl) ht, fun D H H' G a dx vals fvs lv ha ok sG Ga nfG fv c q => ?_⟩
      obtain ⟨vals', N, e, off, nf, sm, bt, at_, fv'⟩ := c.ex
      have iv : i < vals.length := by omega
      obtain ⟨g, eg, atg⟩ := paired_get fv (List.getElem?_eq_getElem iv)
      have nG : ∀ b o, G b = some o → b ≠ a := fun b o e z => by rw [z, Ga] at e; cases e
      have sv : ((V.ref a :: vals).map some)[i + 1]? = some (some vals[i]) := by
        rw [List.map_cons, List.getElem?_cons_succ, List.getElem?_map, List.getElem?_eq_getElem iv]
        rfl
      refine ⟨_, sv, _, g, G, rfl, ok g (List.mem_of_getElem? eg), (fun b o e => bt b o (nG b o e) (sG _ _ e)), nfG, atg, fun v' N2 H2 o2 f2 sm2 s2 at2 => ?_⟩
      refine ⟨_, rfl, a, C, dx, _, rfl, s2 _ _ at_, cl, no f fm, ?_, ?_⟩
      · rw [List.length_zip, List.length_take]
        omega
      · have na : N2 a = none := o2 a (by rw [at_]; exact fun z => nomatch z)
        have n1a : N a = none := off a (by rw [ha]; exact fun z => nomatch z)
        have ap : ∀ b, N b ≠ none → N2 b = none := fun b z => o2 b fun y => by
          cases q : N b with
          | none => exact z q
          | some o => rw [sm _ _ q] at y; cases y
        have fresh : f ∉ ((names.take i).zip vals').map Prod.fst := by
          rw [List.map_fst_zip (by rw [List.length_take]; omega)]
          intro m
          have : names = names.take i ++ names.drop i := (List.take_append_drop i names).symm
          rw [this, List.drop_eq_getElem_cons il, ef] at nd
          exact (List.nodup_append.mp nd).2.2 f m f List.mem_cons_self rfl
        refine go D H _ G a dx vals fvs lv ha ok sG Ga nfG fv ⟨vals' ++ [v'], Uni N N2, ?_, fun b z => uni_none (off b z) (o2 b fun y => ?_), uni_frz nf f2, fun b o e => ?_, fun b o hb e => ?_, ?_, ?_⟩ q
        · rw [List.length_append, e]
          rfl
        · by_cases hb : b = a
          · rw [hb, at_] at y; cases y
          · cases q : H b with
            | none => exact z q
            | some o => rw [bt b o hb q] at y; cases y
        · rw [upd_ne (ne_of_none e (uni_none n1a na))]
          exact uni_same (sm.trans s2) sm2 _ _ e
        · rw [upd_ne hb]
          exact s2 _ _ (bt b o hb e)
        · rw [upd_same, putF_new _ _ _ fresh, List.take_add_one, List.getElem?_eq_getElem il, ef, Option.toList_some, List.zip_append (by rw [List.length_take]; omega)]
          rfl
        · rw [List.take_add_one, eg]
          exact Paired.snoc (Fvs.mono uni_l fv') (FvAt.mono (uni_r ap) at2)
/-- __init__ of such a class -/
theorem ok_initN {f : Addr} {fd : FuncData} {q : Str} {st : Stmt} {names : List Str} (F : Fun K "__init__" q st f fd) (S : FnScope (("self" : Str) :: names) (("self" : Str) :: names) (defScope st)) (hb : IniB names (defBody st))
    (hs : (defScope st).names.lookup ("self" : Str) = some .local) (hx : ∀ x ∈ names, (defScope st).names.lookup x = some .local) (hc : (defScope st).names.lookup ("copied" : Str) = some .globalImplicit)
    (hd : ∀ x ∈ names, (x == ("__debug__" : Str)) = false ∧ (x == ("__classdict__" : Str)) = false) (cl : Cls K C) (no : ∀ x ∈ names, NoAttr K C x) (nd : names.Nodup) (lt : names.length < 1000)
    (T : B0 mg) (gC : mg "copied" = some (.ref fC)) (FC : Fun K "copied" "copied" sCopied fC dC) (bC : Binds K dC ["value"] []) (n : Nat) : FnOk P w K mg base CX0 (n + 3) f fd (("self" : Str) :: names) (spInitN (n + 1) K C names) := by
  have GC : FnOk P w K mg base CX0 (n + 2) fC dC ["value"] (spCopiedF (n + 1) K) := ok_copiedF FC T gC bC n
  refine F.ok S (fun vs H Q E h => ?_) (fun cdv A' outer s H vs Q E hr h => ?_)
  · obtain ⟨a, dx, vals, fvs, G, rfl, hl, _⟩ := h
    rw [List.length_cons, List.length_cons, hl]
  · obtain ⟨a, dx, vals, fvs, G, rfl, hl, ha, ok, sG, nf, Ga, fv, k⟩ := h
    obtain ⟨t, ht, go⟩ := ini_run (X := (cxOf CX0 P w K mg base (("self" : Str) :: names) q (defScope st) f cdv A' outer s H E).nox) (C := C) rfl rfl GC hr hc gC FC.kp bC (.inl hs) (fun x m => .inl (hx x m)) hd cl no nd lt names (defBody st) 0 hb rfl (Nat.zero_le _)
    refine ⟨t, ht, ?_⟩
    have es : L2.start (("self" : Str) :: names) (.ref a :: vals) = (V.ref a :: vals).map some := by
      unfold L2.start
      rw [List.length_cons, List.length_cons, hl, Nat.sub_self, List.replicate_zero, List.append_nil]
    rw [es]
    refine go _ H H G a dx vals fvs hl ha ok sG Ga nf fv ⟨[], Nil, rfl, (fun _ _ => rfl), (fun _ _ _ e => nomatch e), (fun _ _ e => nomatch e), (fun _ _ _ e => e), ha, Paired.nil⟩ fun H2 c => ?_
    obtain ⟨vals', N, e, o, nf', sm, bt, at_, fv'⟩ := c.ex
    have lf : fvs.length = names.length := by rw [← hl]; exact (Paired.length fv).symm
    rw [List.take_of_length_le (Nat.le_refl _)] at at_
    rw [List.take_of_length_le (by omega)] at fv'
    exact k vals' N H2 o nf' sm bt at_ fv'
end
end K27
end

section
set_option Elab.async false
set_option linter.all false
set_option maxRecDepth 100000
set_option maxHeartbeats 4000000
/-! bool(x) by an own __bool__; a tuple == an instance with an own __eq__ -/
namespace KZ
open PySem PySem.Spec PyProof.Rows L2
section
variable {prog : Program} {w : World} {A : Around} {E : Value → Shared → Prop} {s : Shared} {K : PySem.W.Frag} {x C f : Addr} {ox : Obj} {od : Option Obj}
theorem bool_own {h₀ : Heap} {L : Addr} {m : Str → Option Value} {Q : Value → Shared → Prop} (F : PyProof.Rows.Fr h₀ L s.heap m) (X₀ : K.In h₀) (I : PySem.W.InstAt s.heap x ox C od) (hs : PySem.W.findIn K (.ref C) "__bool__" = some (some (.ref f))) (hf : PySem.W.isFn K (.ref f) = true)
    (h : wpAny (model prog w) A.in1.in1 (call (.ref f) [.ref x]) (fun r s' => ∃ b : Bool, r = .bool b ∧ Q r s') E s) : wpAny (model prog w) A (call (.type "bool") [.ref x]) Q E s := by
  refine callType_codes (T := "bool") (Bi := Builtin.«object.__init__») (Q₁ := fun r s' => ∃ b : Bool, r = .bool b ∧ Q r s') PySem.F.called_bool (PySem.F.typeCall_bool_1 _) PySem.F.entry_object_init ?_ ?_
  · refine codeAny_of_tree ?_
    show wpAny _ A.in1.in1 (do checkBuiltinCall "bool.__new__" ⟨[.type "bool", .ref x], []⟩; again (.builtin "bool.__new__" ⟨[.type "bool", .ref x], []⟩)) _ _ s
    refine wpAny_bind (wpAny_of_eq (PySem.F.newCall_bool_1 _) (wpAny_pure ⟨plainId_quiet (by decide +kernel) _, codeAny_builtin PySem.F.entry_bool_new ?_⟩))
    rw [Around.under_plainId (by decide +kernel) _]
    obtain ⟨hp, g, d, tk, os⟩ := s
    have f1 := PySem.F.conv_sub_bool
    have tr : ∀ Q' : Bool → Shared → Prop, (∀ (b : Bool) s', Q (.bool b) s' → Q' b s') → wpAny (model prog w) A.in1.in1 (truthy (.ref x)) Q' E ⟨hp, g, d, tk, os⟩ := fun Q' hQ =>
      PySem.W.truthy_K F X₀ I hs hf (wpAny_mono h (fun r s' ⟨b, e, q⟩ => by subst e; exact hQ b s' q) fun _ _ z => z)
    unfold Builtin.«bool.__new__»
    repeat (any_goals (first | assumption | (with_reducible refine tr _ fun b s' hq => ?_) | wp_step))
    exact ⟨b, rfl, hq⟩
  · rintro obj s' ⟨b, rfl, hq⟩
    exact ⟨PySem.typeIs_bool _ _, PySem.F.args_object_init_2 _ _, object_init_meets PySem.F.called_bool.init.lookup PySem.F.called_bool.made (by decide) prog w A.in1 _ s' ⟨PySem.typeIs_bool _ _, rfl, hq⟩⟩
/-- a tuple does not know an instance -/
theorem tup_declines {l b : Addr} {us : Array Value} {Q : Value → Shared → Prop} (hl : s.heap.IsTuple l us) (hb : PySem.W.Looks (model prog w) s.heap (isInstance (.ref b) (.type "tuple")) false) (h : Q .notImplemented s) :
    wpAny (model prog w) A (call (.builtin "tuple.__eq__") [.ref l, .ref b]) Q E s := by
  obtain ⟨⟨c1, d1, a1, s1⟩, o1, k1, n1, e1⟩ := id hl
  simp only at k1 e1
  subst k1 e1
  refine wpAny_call_entry PySem.F.slot_tuple_eq ⟨_, o1, rfl⟩ PySem.F.entry_tuple_eq ?_ (PySem.F.args_tuple_eq_2 _ _)
  obtain ⟨hp, g, d, tk, os⟩ := s
  have tr : ∀ (A' : Around) (E' : Value → Shared → Prop) (Q' : Bool → Shared → Prop), Q' false ⟨hp, g, d, tk, os⟩ → wpAny (model prog w) A' (isInstance (.ref b) (.type "tuple")) Q' E' ⟨hp, g, d, tk, os⟩ := fun A' E' Q' q => hb.here q
  unfold Builtin.«tuple.__eq__»
  repeat (any_goals (first | assumption | (with_reducible refine tr _ _ _ ?_) | wp_step))
  exact ⟨_, rfl, h⟩
theorem tup_declines_ne {l b : Addr} {us : Array Value} {Q : Value → Shared → Prop} (hl : s.heap.IsTuple l us) (hb : PySem.W.Looks (model prog w) s.heap (isInstance (.ref b) (.type "tuple")) false) (h : Q .notImplemented s) :
    wpAny (model prog w) A (call (.builtin "tuple.__ne__") [.ref l, .ref b]) Q E s := by
  obtain ⟨⟨c1, d1, a1, s1⟩, o1, k1, n1, e1⟩ := id hl
  simp only at k1 e1
  subst k1 e1
  refine wpAny_call_entry PySem.F.slot_tuple_ne ⟨_, o1, rfl⟩ PySem.F.entry_tuple_ne ?_ (PySem.F.args_tuple_ne_2 _ _)
  obtain ⟨hp, g, d, tk, os⟩ := s
  have tr : ∀ (A' : Around) (E' : Value → Shared → Prop) (Q' : Bool → Shared → Prop), Q' false ⟨hp, g, d, tk, os⟩ → wpAny (model prog w) A' (isInstance (.ref b) (.type "tuple")) Q' E' ⟨hp, g, d, tk, os⟩ := fun A' E' Q' q => hb.here q
  unfold Builtin.«tuple.__ne__»
  repeat (any_goals (first | assumption | (with_reducible refine tr _ _ _ ?_) | wp_step))
  exact ⟨_, rfl, h⟩
theorem rc_tup_own {l : Addr} {us : Array Value} {Q : Value → Shared → Prop} (hu : A.units < cLine) (X : K.In s.heap) (hl : s.heap.IsTuple l us) (I : PySem.W.InstAt s.heap x ox C od) (sub : PySem.W.subIn K (.ref C) (.type "tuple") = some false)
    (hs : PySem.W.findIn K (.ref C) "__eq__" = some (some (.ref f))) (hf : PySem.W.isFn K (.ref f) = true)
    (h : wpAny (model prog w) A (call (.ref f) [.ref x, .ref l]) (fun r s' => ∃ b : Bool, r = .bool b ∧ Q r s') E s) : wpAny (model prog w) A (richCompare .Eq (.ref l) (.ref x)) Q E s := by
  have ta : s.TypeIs (.ref l) "tuple" := by
    obtain ⟨o, k1, k2, _⟩ := hl
    exact ⟨o, k1, k2⟩
  have ni : PySem.W.Looks (model prog w) s.heap (isInstance (.ref x) (.type "tuple")) false := I.type.andThen (PySem.W.looks_subIn X (t := .ref C) sub)
  unfold richCompare
  simp only [oneThing_ref]
  refine wpAny_holding (wpAny_bind (wpAny_cRoomFor hu ?_))
  refine wpAny_bind (wpAny_typeOf ta (wpAny_bind (I.type.here ?_)))
  refine wpAny_bind ?_
  refine (PySem.W.looks_subIn X sub).here ?_
  simp only [Bool.false_eq_true, if_false, Bool.not_false, if_true]
  refine wpAny_bind (m := tryCompare (.ref l) _ (.ref x)) (wpAny_tryCompare_declines ta PySem.F.slot_tuple_eq (tup_declines hl ni ⟨rfl, ?_⟩))
  have one : wpAny (model prog w) A (tryCompare (.ref x) "__eq__" (.ref l)) (fun r s' => ∃ v, r = some v ∧ Q v s') E s := by
    unfold tryCompare
    refine wpAny_bind (PySem.W.ifBound_K X I hs hf (wpAny_mono h (fun v s' hv => ?_) fun _ _ e => e))
    obtain ⟨b, rfl, q⟩ := hv
    exact wpAny_pure ⟨_, rfl, q⟩
  refine wpAny_bind (wpAny_mono one (fun r s' z => ?_) fun _ _ e => e)
  obtain ⟨v, rfl, hq⟩ := z
  exact wpAny_pure hq
theorem rc_tup_own_ne {l : Addr} {us : Array Value} {Q : Value → Shared → Prop} (hu : A.units + 1 < cLine) (X : K.In s.heap) (hl : s.heap.IsTuple l us) (I : PySem.W.InstAt s.heap x ox C od) (sub : PySem.W.subIn K (.ref C) (.type "tuple") = some false)
    (hne : PySem.W.findIn K (.ref C) "__ne__" = some (some (.builtin "object.__ne__"))) (hob : PySem.W.mroIn K C (.type "object") = some true) (hs : PySem.W.findIn K (.ref C) "__eq__" = some (some (.ref f))) (hf : PySem.W.isFn K (.ref f) = true)
    (h : wpAny (model prog w) A.in1 (call (.ref f) [.ref x, .ref l]) (fun r s' => ∃ b : Bool, r = .bool b ∧ Q (.bool (!b)) s') E s) : wpAny (model prog w) A (richCompare .NotEq (.ref l) (.ref x)) Q E s := by
  have ta : s.TypeIs (.ref l) "tuple" := by
    obtain ⟨o, k1, k2, _⟩ := hl
    exact ⟨o, k1, k2⟩
  have ni : PySem.W.Looks (model prog w) s.heap (isInstance (.ref x) (.type "tuple")) false := I.type.andThen (PySem.W.looks_subIn X (t := .ref C) sub)
  unfold richCompare
  simp only [oneThing_ref]
  refine wpAny_holding (wpAny_bind (wpAny_cRoomFor (by omega) ?_))
  refine wpAny_bind (wpAny_typeOf ta (wpAny_bind (I.type.here ?_)))
  refine wpAny_bind ?_
  refine (PySem.W.looks_subIn X sub).here ?_
  simp only [Bool.false_eq_true, if_false, Bool.not_false, if_true]
  refine wpAny_bind (m := tryCompare (.ref l) _ (.ref x)) (wpAny_tryCompare_declines ta PySem.F.slot_tuple_ne (tup_declines_ne hl ni ⟨rfl, ?_⟩))
  have one := ne_try (Q := fun v s' => ∃ z, v = some z ∧ Q z s') hu X I hne hob hs hf (wpAny_mono h (fun v s' ⟨r, e, q⟩ => ⟨r, e, _, rfl, q⟩) fun _ _ e => e)
  refine wpAny_bind (wpAny_mono one (fun r s' z => ?_) fun _ _ e => e)
  obtain ⟨v, rfl, hq⟩ := z
  exact wpAny_pure hq
end
section
variable {X : Cx} {CX : CXT} {n : Nat} {C f : Addr} {fd : FuncData} {ps : List Str} {sp : Sp} {E : XK}
/-- bool(x), x an instance with an own __bool__ -/
def rBoolOwn (C : Addr) (sp : Sp) (E : XK) : List V → Hp → VK → Prop := fun xs H Q => ∃ a dx fs, xs = [V.ref a] ∧ H a = some (.ins C dx fs) ∧ sp [.ref a] H (fun v H' => ∃ r : Bool, v = .bl r ∧ Q (.bl r) H') E
theorem call_boolOwn (F : FnOk X.prog X.w X.K X.mg X.base CX n f fd ps sp) (hb : Binds X.K fd ps []) (hs : PySem.W.findIn X.K (.ref C) "__bool__" = some (some (.ref f))) (hf : PySem.W.isFn X.K (.ref f) = true) (hx : Passes CX X E) (hr : Room (n + 2) X.A) : CallR X (.type "bool") (rBoolOwn C sp E) := by
  intro pins s σ H xs us Q I r h
  obtain ⟨a, dx, fs, rfl, ha, q⟩ := h
  obtain ⟨u, rfl, ru⟩ := vals1 r
  obtain rfl : u = Value.ref a := ru
  obtain ⟨mA, J, _⟩ := ins_get I.hok ha
  obtain ⟨od, J, _⟩ := J.look
  obtain ⟨m, hF⟩ := I.fr
  have sb : Sub X (n + 1 + 1) X.A := ⟨hr, rfl⟩
  refine bool_own hF I.ok.mod.kin J hs hf (wpAny_mono (run_own F hb hx sb.in1.in1 I (.cons (show L2.RelV (V.ref a) (Value.ref a) from rfl) .nil) q) (fun z s' hz => ?_) fun _ _ e => e)
  obtain ⟨_, H', I', rz, b, rfl, q⟩ := hz
  cases (show z = Value.bool b from rz)
  exact ⟨b, rfl, .bl b, H', I', rfl, q⟩
/-- a tuple == an instance with an own __eq__; neg: != -/
def rTupOwn (K : PySem.W.Frag) (C : Addr) (sp : Sp) (E : XK) (neg : Bool) : R2 := fun x y H Q => ∃ t us a dx fs, x = .ref t ∧ SqT K H t us ∧ y = .ref a ∧ H a = some (.ins C dx fs) ∧
  sp [y, x] H (fun v H' => ∃ r : Bool, v = .bl r ∧ Q (.bl (neg != r)) H') E
theorem op_eqTO (F : FnOk X.prog X.w X.K X.mg X.base CX n f fd ps sp) (O : OwnEqF X.K C f fd ps) (sub : PySem.W.subIn X.K (.ref C) (.type "tuple") = some false) (hx : Passes CX X E) (hr : Room n X.A) : OpR X (compareOp .Eq) (rTupOwn X.K C sp E false) := by
  intro pins s σ H x y u v Q I rx ry hq
  obtain ⟨t, us, a, dx, fs, ex, ht, ey, ha, h⟩ := hq
  subst ex
  subst ey
  cases (show u = Value.ref t from rx)
  cases (show v = Value.ref a from ry)
  obtain ⟨its, rv, tt, _⟩ := I.tuple ht
  obtain ⟨mA, J, _⟩ := ins_get I.hok ha
  obtain ⟨od, J, _⟩ := J.look
  show wpAny (model X.prog X.w) X.A (richCompare .Eq (.ref t) (.ref a)) (EP X pins σ Q) X.xe s
  refine rc_tup_own hr.units0 I.kIn (us := its.toArray) tt J sub O.eq O.fn (wpAny_mono (run_own F O.b hx ⟨hr, rfl⟩ I (.cons (show L2.RelV (V.ref a) (Value.ref a) from rfl) (.cons (show L2.RelV (V.ref t) (Value.ref t) from rfl) .nil)) h) (fun z s' hz => ?_) fun _ _ e => e)
  obtain ⟨_, H', I', rz, r, rfl, q⟩ := hz
  cases (show z = Value.bool r from rz)
  exact ⟨r, rfl, .bl r, H', I', rfl, by cases r <;> exact q⟩
theorem op_neTO (F : FnOk X.prog X.w X.K X.mg X.base CX n f fd ps sp) (O : OwnEqF X.K C f fd ps) (sub : PySem.W.subIn X.K (.ref C) (.type "tuple") = some false) (hx : Passes CX X E) (hr : Room (n + 1) X.A) : OpR X (compareOp .NotEq) (rTupOwn X.K C sp E true) := by
  intro pins s σ H x y u v Q I rx ry hq
  obtain ⟨t, us, a, dx, fs, ex, ht, ey, ha, h⟩ := hq
  subst ex
  subst ey
  cases (show u = Value.ref t from rx)
  cases (show v = Value.ref a from ry)
  obtain ⟨its, rv, tt, _⟩ := I.tuple ht
  obtain ⟨mA, J, _⟩ := ins_get I.hok ha
  obtain ⟨od, J, _⟩ := J.look
  have sb : Sub X (n + 1) X.A := ⟨hr, rfl⟩
  show wpAny (model X.prog X.w) X.A (richCompare .NotEq (.ref t) (.ref a)) (EP X pins σ Q) X.xe s
  refine rc_tup_own_ne (by have := hr.units; omega) I.kIn (us := its.toArray) tt J sub O.ne O.ob O.eq O.fn (wpAny_mono (run_own F O.b hx sb.in1 I (.cons (show L2.RelV (V.ref a) (Value.ref a) from rfl) (.cons (show L2.RelV (V.ref t) (Value.ref t) from rfl) .nil)) h) (fun z s' hz => ?_) fun _ _ e => e)
  obtain ⟨_, H', I', rz, r, rfl, q⟩ := hz
  cases (show z = Value.bool r from rz)
  exact ⟨r, rfl, .bl (!r), H', I', rfl, by cases r <;> exact q⟩
end
end KZ
end

section
set_option Elab.async false
set_option linter.all false
set_option maxRecDepth 100000
set_option maxHeartbeats 4000000
/-! x in o by an own __contains__, len(o) by an own __len__ -/
namespace KZ
open PySem PySem.Spec PyProof.Rows L2
section
variable {X : Cx} {CX : CXT} {n : Nat} {C f : Addr} {fd : FuncData} {ps : List Str} {sp : Sp} {E : XK}
/-- x in o; neg: not in -/
def rInOwn (C : Addr) (sp : Sp) (E : XK) (neg : Bool) : R2 := fun x y H Q => ∃ a dx fs, y = .ref a ∧ H a = some (.ins C dx fs) ∧ sp [y, x] H (fun v H' => ∃ r : Bool, v = .bl r ∧ Q (.bl (neg != r)) H') E
theorem op_inOwn (F : FnOk X.prog X.w X.K X.mg X.base CX n f fd ps sp) (hb : Binds X.K fd ps []) (hs : PySem.W.findIn X.K (.ref C) "__contains__" = some (some (.ref f))) (hf : PySem.W.isFn X.K (.ref f) = true) (hx : Passes CX X E) (hr : Room n X.A) :
    OpR X (compareOp .In) (rInOwn C sp E false) := by
  intro pins s σ H x y u v Q I rx ry hq
  obtain ⟨a, dx, fs, ey, ha, h⟩ := hq
  subst ey
  cases (show v = Value.ref a from ry)
  obtain ⟨mA, J, _⟩ := ins_get I.hok ha
  obtain ⟨od, J, _⟩ := J.look
  obtain ⟨m, hF⟩ := I.fr
  refine PySem.W.in_K hF I.ok.mod.kin J hs hf (wpAny_mono (run_own F hb hx ⟨hr, rfl⟩ I (.cons ry (.cons rx .nil)) h) (fun z s' hz => ?_) fun _ _ e => e)
  obtain ⟨_, H', I', rz, r, rfl, q⟩ := hz
  cases (show z = Value.bool r from rz)
  exact wpAny_truthy_bool ⟨.bl r, H', I', rfl, by cases r <;> exact q⟩
/-- len(o) -/
def rLenOwn (C : Addr) (sp : Sp) (E : XK) : List V → Hp → VK → Prop := fun xs H Q => ∃ a dx fs, xs = [V.ref a] ∧ H a = some (.ins C dx fs) ∧ sp [.ref a] H (fun v H' => ∃ k : Nat, v = .int k ∧ (k : Int) < 2 ^ 63 ∧ Q (.int k) H') E
theorem call_lenOwn (F : FnOk X.prog X.w X.K X.mg X.base CX n f fd ps sp) (hb : Binds X.K fd ps []) (hs : PySem.W.findIn X.K (.ref C) "__len__" = some (some (.ref f))) (hf : PySem.W.isFn X.K (.ref f) = true) (hx : Passes CX X E) (hr : Room (n + 1) X.A) :
    CallR X (.builtin "len") (rLenOwn C sp E) := by
  intro pins s σ H xs us Q I r h
  obtain ⟨a, dx, fs, rfl, ha, q⟩ := h
  obtain ⟨u, rfl, ru⟩ := vals1 r
  obtain rfl : u = Value.ref a := ru
  obtain ⟨mA, J, _⟩ := ins_get I.hok ha
  obtain ⟨od, J, _⟩ := J.look
  obtain ⟨m, hF⟩ := I.fr
  have sb : Sub X (n + 1) X.A := ⟨hr, rfl⟩
  refine PySem.W.len_K hF I.ok.mod.kin J hs hf (wpAny_mono (run_own F hb hx sb.in1 I (.cons (show L2.RelV (V.ref a) (Value.ref a) from rfl) .nil) q) (fun z s' hz => ?_) fun _ _ e => e)
  obtain ⟨_, H', I', rz, k, rfl, hk, q⟩ := hz
  obtain ⟨t, ez⟩ := (show ∃ t, z = Value.int k t from rz)
  subst ez
  exact ⟨⟨by omega, hk⟩, .int k, H', I'.kept (t' := s'.toks + 1) (fun _ _ e => e), ⟨_, rfl⟩, q⟩
end
end KZ
end

section
set_option Elab.async false
set_option linter.all false
set_option maxRecDepth 100000
set_option maxHeartbeats 4000000
/-! an instance is walked by an own __iter__ that says iter(self.f), f a dict's name -/
namespace KZ
open PySem PySem.Spec PyProof.Rows L2
/-- at it the iterator of the keys of the dict at d, its place i -/
def KitO (d it : Addr) (i n ep : Nat) : HO := .ext fun h => h.IsKeyIter it d i n ep
theorem kitO_ok {P : Program} {w : World} {H : Hp} {h : Heap} {d it : Addr} {i n ep : Nat} (e : h.IsKeyIter it d i n ep) : ObjOk P w H h it (KitO d it i n ep) :=
  ⟨e, let ⟨o, z, _⟩ := e; ⟨o, z⟩, fun _ _ q k => q.at fun o e => k o e⟩
section
variable {prog : Program} {w : World} {A : Around} {E : Value → Shared → Prop} {s : Shared}
theorem iter_of_dict {d : Addr} {o : Obj} {es : Array DictEntry} {ep : Nat} {Q : Value → Shared → Prop} (hd : (d == sysModules) = false) (ho : s.heap.get? d = some o) (hc : o.ExactDict) (hdat : o.data = .dict es ep)
    (h : Q (.ref s.heap.objs.size) { s with heap := s.heap.push { cls := .type "dict_keyiterator", data := .fields #[.ref d, .int 0 0, .int es.size 0, .int ep 0] } }) : wpAny (model prog w) A (call (.builtin "iter") [.ref d]) Q E s := by
  refine Calls.call_function_entry (by decide +kernel) (by decide +kernel) PySem.W.kdk_entry_iter (PySem.W.kdk_args_iter _) ?_
  unfold Builtin.«iter»
  refine wpAny_bind (m := someArgs "iter" 1 2 _) (wpAny_of_eq (a := [Value.ref d]) (by first | rfl | kernel_rfl!) ?_)
  show wpAny _ _ (pyIter (.ref d) >>= _) _ _ _
  exact wpAny_bind (iter_keys hd ho hc hdat (wpAny_pure ⟨_, rfl, h⟩))
end
/-- iter(d), the dict locked -/
def rIterK (n0 : Nat) : List V → Hp → VK → Prop := fun xs H Q => ∃ d o kvs, xs = [V.ref d] ∧ H d = some (.frz o (.dK kvs)) ∧ ∀ es ep it, o.data = .dict es ep → H it = none → n0 ≤ it → Q (.ref it) (upd H it (KitO d it 0 kvs.length ep))
theorem call_iterK {X : Cx} : CallR X (.builtin "iter") (rIterK X.s_0.heap.objs.size) := by
  intro pins s σ H xs us Q I r h
  obtain ⟨d, o, kvs, rfl, hd, q⟩ := h
  obtain ⟨u, rfl, ru⟩ := vals1 r
  obtain rfl : u = Value.ref d := ru
  obtain ⟨hs, hgd, hx, es, ep, vs, hdt, hsz, kv, hm⟩ := I.frzK hd
  refine iter_of_dict hs hgd hx hdt ?_
  rw [hsz]
  exact ⟨.ref s.heap.objs.size, _, I.laid (t' := s.toks) (fun b u e => Heap.get?_push_of_some _ e) (Nat.le_refl _) (kitO_ok ⟨_, Heap.get?_push_size _ rfl, rfl, rfl⟩), rfl, q es ep _ hdt (I.hok.fresh (Nat.le_refl _)) I.sz⟩
/-- a class whose __iter__ walks the keys of the dict in its field fld -/
structure ItF (P : Program) (w : World) (K : PySem.W.Frag) (mg : Str → Option Value) (base : Heap) (k : Nat) (C fi : Addr) (fld : Str) : Prop where
  it : PySem.W.findIn K (.ref C) "__iter__" = some (some (.ref fi))
  fn : PySem.W.isFn K (.ref fi) = true
  run : ∀ (A : Around) (out : List Env) (s : Shared) (H : Hp) (a dx d : Addr) (fs : List (Str × V)) (o : Obj) (kvs : List (Key × V)) (Q : VK), Room k A → Env0 P w K mg base A out s H → H a = some (.ins C dx fs) → fs.lookup fld = some (.ref d) → H d = some (.frz o (.dK kvs)) →
    (∀ es ep it, o.data = .dict es ep → H it = none → s.heap.objs.size ≤ it → Q (.ref it) (upd H it (KitO d it 0 kvs.length ep))) → codeAny (model P w) A (.call (.ref fi) ⟨[.ref a], []⟩) (CR CX0 out P w H s Q fun _ _ _ => False) s
section
variable {X : Cx} {pins : List (Addr × Obj)} {σ : L2.St} {H : Hp} {s : Shared} {k : Nat} {C fi a dx d : Addr} {fld : Str} {fs : List (Str × V)} {o : Obj} {kvs : List (Key × V)}
/-- the iterator comes -/
theorem own_keyiter {A : Around} (F : ItF X.prog X.w X.K X.mg X.base k C fi fld) (sb : Sub X k A) (I : Inv X pins σ H s) (ha : H a = some (.ins C dx fs)) (hl : fs.lookup fld = some (.ref d)) (hd : H d = some (.frz o (.dK kvs))) {Q : Value → Shared → Prop}
    (q : ∀ es ep it s', o.data = .dict es ep → Inv X pins σ H s' → s'.heap.IsKeyIter it d 0 kvs.length ep → FpOk X pins H it → H it = none → Q (.ref it) s') {E : Value → Shared → Prop} : wpAny (model X.prog X.w) A (pyIter (.ref a)) Q E s := by
  obtain ⟨mA, J, _⟩ := ins_get I.hok ha
  obtain ⟨od, J, _⟩ := J.look
  obtain ⟨m, hF⟩ := I.fr
  have e0 : Env0 X.prog X.w X.K X.mg X.base A X.stack s H := by
    have e := I.env0
    refine ⟨?_, e.mod, e.bs, e.bsz, e.funs, e.frf, e.hok, e.bare⟩
    rw [sb.fr]
    exact e.frames
  refine PySem.W.owit_iter hF I.ok.mod.kin J F.it F.fn ?_
  refine wpAny_call (codeAny_mono (F.run A X.stack s H a dx d fs o kvs (fun v H' => ∃ es ep it, o.data = .dict es ep ∧ H it = none ∧ s.heap.objs.size ≤ it ∧ v = .ref it ∧ H' = upd H it (KitO d it 0 kvs.length ep)) sb.room e0 ha hl hd
    fun es ep it h1 h2 h3 => ⟨es, ep, it, h1, h2, h3, rfl, rfl⟩) fun res s' hq => ?_)
  rcases res with er | fl
  · obtain ⟨_, _, _, _, _, _, _, _, _, _, _, _, _, z⟩ := hq
  · cases fl with
    | ret u =>
      obtain ⟨v, H', I', rv, es, ep, it, h1, h2, h3, ev, eH⟩ := I.after hq
      subst ev
      subst eH
      cases (show u = Value.ref it from rv)
      have st : s'.heap.IsKeyIter it d 0 kvs.length ep := (I'.hok it _ upd_same).1
      have I2 := ItX.inv_drop I' (a := it) upd_same
      have fp := ItX.inv_fp I' (u := KitO d it 0 kvs.length ep) upd_same (Nat.le_trans I.sz h3)
      rw [ItX.dropH_upd h2] at I2 fp
      unfold PySem.W.OwitIt
      exact wpAny_specialOf st.typeIs PySem.F.slot_dict_keyiterator_next.lookup (q es ep it s' h1 I2 st fp h2)
    | _ => exact False.elim hq
/-- for x in o -/
def iOwn (C : Addr) (fld : Str) (te : TE) : TI := fun σ H R => te σ H fun x H1 => ∃ a dx fs d o kvs, x = .ref a ∧ H1 a = some (.ins C dx fs) ∧ fs.lookup fld = some (.ref d) ∧ H1 d = some (.frz o (.dK kvs)) ∧ R (Itk d o kvs) H1
theorem pi_own {tg e : Expr} {te : TE} (F : ItF X.prog X.w X.K X.mg X.base k C fi fld) (hr : Room k X.A) (he : PE X e te) : PI X tg e (iOwn C fld te) := by
  refine ⟨fun pins s σ H R I h => ?_⟩
  refine thn (he.run pins s σ H _ I h) fun u s1 ⟨x, H1, I1, rx, a, dx, fs, d, o, kvs, ex, ha, hl, hd, q⟩ => ?_
  subst ex
  obtain rfl : u = Value.ref a := rx
  refine own_keyiter F ⟨hr, rfl⟩ I1 ha hl hd fun es ep it s' h1 I2 st fp hn => ?_
  refine ⟨it, [it], _, _, H1, rfl, I2, turn_keys it h1, st, fun b hb => ?_, q⟩
  have e : b = it := by simpa using hb
  rw [e]
  exact fp

/-- the loop that fills the list at q with the keys -/
theorem keys_loop {A1 : Around} {q it : Addr} {es : Array DictEntry} {ep : Nat} {Rs : Result → Shared → Prop} (hh : A1.handled = none) (hod : o.data = .dict es ep) (hlen : kvs.length < sizeLine) (hdone : ∀ s, Inv X pins σ (upd H q (.lst (kvs.map fun kv => kV kv.1))) s → Rs (.ok (.ret .none)) s) :
    ∀ (m i : Nat) (s : Shared), kvs.length - i = m → i ≤ kvs.length → Inv X pins σ (upd H q (.lst ((kvs.map fun kv => kV kv.1).take i))) s → s.heap.IsKeyIter it d i kvs.length ep → (∀ G, G it = none → FpOk X pins G it) → H it = none → it ≠ q → d ≠ q → H d = some (.frz o (.dK kvs)) →
      codeAny (model X.prog X.w) A1 (.builtin "list.extend.loop" ⟨[.ref q, .ref it, .none], []⟩) Rs s := by
  intro m
  induction m with
  | zero =>
    intro i s hm hi I st fp hit niq ndq hd
    have e : i = kvs.length := by omega
    have hd2 : upd H q (.lst ((kvs.map fun kv => kV kv.1).take i)) d = some (.frz o (.dK kvs)) := by rw [upd_ne ndq]; exact hd
    obtain ⟨hs, hgd, hx, es', ep', vs, hdt, hsz, kv, hm'⟩ := I.frzK hd2
    obtain ⟨rfl, rfl⟩ := dict_ep hod hdt
    have hit2 : upd H q (.lst ((kvs.map fun kv => kV kv.1).take i)) it = none := by rw [upd_ne niq]; exact hit
    obtain ⟨f0, f1, f2, f3, f4, f5⟩ := fp _ hit2
    refine codeAny_builtin PySem.F.entry_extend_loop ?_
    rw [Around.under_plainId PySem.F.plain_extend_loop _]
    show wpAny _ A1.in1 (pyNext (.ref it) >>= _) _ _ s
    refine wpAny_bind (next_key_end hh st hgd hdt hsz (Nat.le_of_eq e.symm) fun h' eb => ?_)
    have I1 : Inv X pins σ _ { s with heap := h' } := I.turned (t' := s.toks) (fun b ob hb e => eb b ob hb e) f0 f1 f3 f4 f5
    rw [List.take_of_length_le (by rw [List.length_map]; omega)] at I1
    exact wpAny_pure (hdone _ I1)
  | succ m ih =>
    intro i s hm hi I st fp hit niq ndq hd
    have hlt : i < kvs.length := by omega
    have hd2 : upd H q (.lst ((kvs.map fun kv => kV kv.1).take i)) d = some (.frz o (.dK kvs)) := by rw [upd_ne ndq]; exact hd
    obtain ⟨hs, hgd, hx, es', ep', vs, hdt, hsz, kv, hm'⟩ := I.frzK hd2
    obtain ⟨rfl, rfl⟩ := dict_ep hod hdt
    have hit2 : upd H q (.lst ((kvs.map fun kv => kV kv.1).take i)) it = none := by rw [upd_ne niq]; exact hit
    obtain ⟨f0, f1, f2, f3, f4, f5⟩ := fp _ hit2
    obtain ⟨⟨k, v⟩, hkv⟩ : ∃ p, kvs[i]? = some p := ⟨kvs[i], List.getElem?_eq_getElem hlt⟩
    obtain ⟨u, hu, ru⟩ := kv_get kv hkv
    have hl : kvs.length = vs.length := Paired.length kv
    refine codeAny_builtin PySem.F.entry_extend_loop ?_
    rw [Around.under_plainId PySem.F.plain_extend_loop _]
    show wpAny _ A1.in1 (pyNext (.ref it) >>= _) _ _ s
    rw [hl] at st
    refine wpAny_bind (wpAny_pyNext_dict_item st hm' hu fun key h' hkey st' sb => ?_)
    have I1 : Inv X pins σ _ { s with heap := h' } := I.turned (t' := s.toks) (fun b ob hb e => (sb.2 b hb).trans e) f0 f1 f3 f4 f5
    show wpAny _ A1.in1 (updateSeq q (·.push key) >>= _) _ _ _
    obtain ⟨z, its, n, r2, hl2, e⟩ := I1.lstM upd_same
    have hle : ((kvs.map fun kv => kV kv.1).take i).length = i := by rw [List.length_take, List.length_map]; omega
    refine wpAny_bind (wpAny_updateSeq e rfl (wpAny_pure ⟨plainId_quiet PySem.F.plain_extend_loop _, ?_⟩) (by rw [List.size_toArray]; omega) (by show (its.toArray.push key).size ≤ sizeLine + 1; rw [Array.size_push, List.size_toArray]; omega))
    have I2 := I1.lset (f := (·.push key)) (its' := its ++ [key]) (ys := (kvs.map fun kv => kV kv.1).take i ++ [kV k]) (t' := s.toks) upd_same e (by simp) (r2.append (.cons (relV_key (show keyIs k key = true from hkey)) .nil)) (by rw [List.length_append, List.length_singleton]; omega)
    rw [upd_upd] at I2
    have et : (kvs.map fun kv => kV kv.1).take (i + 1) = (kvs.map fun kv => kV kv.1).take i ++ [kV k] := by
      rw [List.take_add_one, List.getElem?_map, hkv]
      rfl
    rw [← et] at I2
    have lq : (PySem.Heap.update h' q (Obj.mapSeq (·.push key))).get? it = h'.get? it := Heap.get?_update_other _ _ (Ne.symm niq)
    refine ih (i + 1) _ (by omega) hlt I2 ?_ fp hit niq ndq hd
    rw [hl]
    exact st'.at fun ob e => lq.trans e
/-- nothing is said of the length, but by the own __len__ -/
theorem own_len_hint {A : Around} {n : Nat} {fl : Addr} {fdl : FuncData} {psl : List Str} {spl : Sp} (L : FnOk X.prog X.w X.K X.mg X.base CX0 n fl fdl psl spl) (bl : Binds X.K fdl psl []) (hs : PySem.W.findIn X.K (.ref C) "__len__" = some (some (.ref fl))) (hf : PySem.W.isFn X.K (.ref fl) = true)
    (sb : Sub X (n + 1) A) (I : Inv X pins σ H s) (ha : H a = some (.ins C dx fs)) {E : Value → Shared → Prop} {Q : Bool → Shared → Prop} {j : Nat} (hj : j ≤ sizeLine) (h : spl [.ref a] H (fun v H' => v = .int j ∧ H' = H) fun _ _ _ => False) (q : ∀ b s', Inv X pins σ H s' → Q b s') :
    wpAny (model X.prog X.w) A (Builtin.List.listLengthHint (.ref a)) Q E s := by
  obtain ⟨mA, J, _⟩ := ins_get I.hok ha
  obtain ⟨od, J, _⟩ := J.look
  obtain ⟨m, hF⟩ := I.fr
  have e0 : Env0 X.prog X.w X.K X.mg X.base A.in1 X.stack s H := by
    have e := I.env0
    refine ⟨?_, e.mod, e.bs, e.bsz, e.funs, e.frf, e.hok, e.bare⟩
    rw [sb.in1.fr]
    exact e.frames
  have len1 : ∀ (E' : Value → Shared → Prop) (Q' : Value → Shared → Prop), (∀ t s', Inv X pins σ H s' → Q' (.int j t) s') → wpAny (model X.prog X.w) A (call (.builtin "len") [.ref a]) Q' E' s := fun E' Q' q' => by
    refine PySem.W.len_K hF I.ok.mod.kin J hs hf ?_
    have hl := L.len _ _ _ _ h
    refine wpAny_call (codeAny_mono (L.run A.in1 X.stack s H ⟨[.ref a], []⟩ [.ref a] [.ref a] _ _ sb.in1.room e0 (by
      have z := bl s [.ref a] I.kIn (by simpa using hl)
      simpa using z) (.cons rfl .nil) h) fun res s' hq => ?_)
    rcases res with er | fl
    · exact False.elim hq
    · cases fl with
      | ret u =>
        obtain ⟨v, H', I', rz, ev, eH⟩ := I.after hq
        subst ev
        subst eH
        obtain ⟨t, ez⟩ := (show ∃ t, u = Value.int j t from rz)
        subst ez
        refine ⟨⟨by omega, ?_⟩, q' _ _ (I'.kept (t' := s'.toks + 1) (fun _ _ e => e))⟩
        have := sizeLine_eq
        omega
      | _ => exact False.elim hq
  unfold Builtin.List.listLengthHint
  refine wpAny_bind (wpAny_bind (J.type.here ((PySem.W.looks_findIn I.kIn hs).here ?_)))
  refine PySem.W.KFB.if_not rfl ?_
  refine wpAny_ite_split (fun _ => ?_) (fun z => absurd rfl z)
  refine wpAny_bind (wpAny_rule ?_)
  refine wpAny_bind (wpAny_attempt (len1 _ _ fun t s' I' => ?_))
  refine wpAny_bind (wpAny_pure ?_)
  refine wpAny_ite_split (fun z => ?_) (fun _ => wpAny_pure (q _ _ I'))
  rw [show Builtin.List.listTooLong (Int.toNat (j : Int)) = false from notLongL hj] at z
  cases z
/-- list(o), the dict locked -/
def rListOwn (C : Addr) (fld : Str) (spl : Sp) : List V → Hp → VK → Prop := fun xs H Q => ∃ a dx fs d o kvs, xs = [V.ref a] ∧ H a = some (.ins C dx fs) ∧ fs.lookup fld = some (.ref d) ∧ H d = some (.frz o (.dK kvs)) ∧ kvs.length < sizeLine ∧
  ∀ q, H q = none → spl [.ref a] (upd H q (.lst [])) (fun v H' => v = .int kvs.length ∧ H' = upd H q (.lst [])) (fun _ _ _ => False) ∧ Q (.ref q) (upd H q (.lst (kvs.map fun kv => kV kv.1)))
theorem call_listOwnK {n : Nat} {fl : Addr} {fdl : FuncData} {psl : List Str} {spl : Sp} (hc : X.calm = true) (F : ItF X.prog X.w X.K X.mg X.base k C fi fld) (L : FnOk X.prog X.w X.K X.mg X.base CX0 n fl fdl psl spl) (bl : Binds X.K fdl psl []) (hs : PySem.W.findIn X.K (.ref C) "__len__" = some (some (.ref fl)))
    (hf : PySem.W.isFn X.K (.ref fl) = true) (hr : Room (k + 2) X.A) (hr2 : Room (n + 3) X.A) : CallR X (.type "list") (rListOwn C fld spl) := by
  intro pins s σ H xs us Q I rv h
  obtain ⟨a, dx, fs, d, o, kvs, rfl, ha, hl, hd, hlen, hq⟩ := h
  obtain ⟨u, rfl, ru⟩ := rv.one
  cases ru
  have sb : Sub X k X.A.in1.in1 := (Sub.in1 (Sub.in1 (⟨hr, rfl⟩ : Sub X (k + 2) X.A)))
  have sb2 : Sub X (n + 1) X.A.in1.in1 := (Sub.in1 (Sub.in1 (⟨hr2, rfl⟩ : Sub X (n + 3) X.A)))
  refine callType_codes (Q₁ := fun obj s₁ => obj = .ref s.heap.objs.size ∧ s₁ = { s with heap := s.heap.push { cls := .type "list", data := .seq #[] } }) PySem.F.called_list (PySem.F.typeCall_list_1 _) PySem.F.entry_list_init
    (code_list_new _ ⟨rfl, rfl⟩) fun obj s₁ h₁ => ?_
  obtain ⟨rfl, rfl⟩ := h₁
  have hS : (s.heap.push { cls := .type "list", data := .seq #[] }).get? s.heap.objs.size = some { cls := .type "list", data := .seq #[] } := Heap.get?_push_size _ rfl
  refine ⟨⟨_, hS, rfl⟩, PySem.F.args_list_init_2 _ _, ?_⟩
  have fr : H s.heap.objs.size = none := I.hok.fresh (Nat.le_refl _)
  generalize hS0 : s.heap.objs.size = S at hS fr ⊢
  obtain ⟨hlenP, hQ⟩ := hq _ fr
  have I1 : Inv X pins σ (upd H S (.lst [])) { s with heap := s.heap.push { cls := .type "list", data := .seq #[] } } := by
    rw [← hS0]
    exact I.lnew (its := []) (t' := s.toks) .nil (Nat.zero_le _)
  show wpAny _ _ (do let old ← Builtin.List.listItems (.ref S); Builtin.List.listUpdate (.ref S) (fun _ => #[]); letGo old.toList.reverse; Builtin.List.listExtendWith (.ref S) (.ref a) .none) _ _ _
  refine wpAny_bind ?_
  unfold Builtin.List.listItems
  refine wpAny_bind (wpAny_seqItems hS rfl (wpAny_pure ?_))
  show wpAny _ _ (updateSeq S (fun _ => #[]) >>= fun _ => letGo (#[] : Array Value).toList.reverse >>= fun _ => Builtin.List.listExtendWith (.ref S) (.ref a) .none) _ _ _
  refine wpAny_bind (wpAny_updateSeq hS rfl ?_)
  have I2 := I1.lset (f := fun _ => #[]) (its := []) (its' := []) (ys := []) (t' := s.toks) upd_same hS rfl .nil (Nat.zero_le _)
  rw [upd_upd] at I2
  refine wpAny_bind (wpAny_letGo ?_)
  have neA : a ≠ S := ne_of_none ha fr
  have neD : d ≠ S := ne_of_none hd fr
  have ha2 : upd H S (.lst []) a = some (.ins C dx fs) := by rw [upd_ne neA]; exact ha
  have hd2 : upd H S (.lst []) d = some (.frz o (.dK kvs)) := by rw [upd_ne neD]; exact hd
  obtain ⟨mA, J, _⟩ := ins_get I2.hok ha2
  obtain ⟨od, J, _⟩ := J.look
  unfold Builtin.List.listExtendWith
  refine wpAny_bind (J.type.here ?_)
  have h1 : Builtin.List.listSameRef (.ref S) (.ref a) = false := by simp [Builtin.List.listSameRef, Ne.symm neA]
  have h2 : (Value.ref C == Value.type "list") = false := rfl
  have h3 : (Value.ref C == Value.type "tuple") = false := rfl
  simp only [h1, h2, h3, Bool.or_false, Bool.false_eq_true, if_false]
  have ldn : upd H S (.lst []) d = some (.frz o (.dK kvs)) := hd2
  refine wpAny_bind (own_keyiter F sb I2 ha2 hl hd2 fun es ep it s' h1 I3 st fp hn => ?_)
  have itS : it ≠ S := fun z => by rw [z, upd_same] at hn; cases hn
  have hnH : H it = none := by rwa [upd_ne itS] at hn
  have fpG : ∀ G : Hp, G it = none → FpOk X pins G it := fun G g => ⟨g, fp.2⟩
  have fin : ∀ s1, Inv X pins σ (upd H S (.lst (kvs.map fun kv => kV kv.1))) s1 → EP X pins σ Q (.ref S) s1 := fun s1 J => ⟨.ref S, _, J, rfl, hQ⟩
  have ob : ∀ b ∈ [it], ∃ o, s'.heap.get? b = some o ∧ ∀ v, o.data ≠ .cell v := fun b hb => by
    have e : b = it := by simpa using hb
    subst e
    obtain ⟨oi, e, c, dd⟩ := st
    exact ⟨oi, e, fun v z => by rw [dd] at z; cases z⟩
  have I3' := I3.pinned (fp := [it]) (fun b hb => by
    have e : b = it := by simpa using hb
    subst e
    exact fp) ob
  refine wpAny_bind (wpAny_holding (own_len_hint L bl hs hf sb2 I3' ha2 (Nat.le_of_lt hlen) hlenP fun b s2 I4 => ?_))
  have st2 : s2.heap.IsKeyIter it d 0 kvs.length ep := by
    refine st.at fun oi e => ?_
    exact (I4.pin (it, oi) (List.mem_append_right _ (List.mem_append_right _ (mem_pinsAt (by simp) e)))).1
  have I5 := I4.unpinned
  have loop : ∀ s3, Inv X pins σ (upd H S (.lst [])) s3 → s3.heap.IsKeyIter it d 0 kvs.length ep → codeAny (model X.prog X.w) X.A.in1 (.builtin "list.extend.loop" ⟨[.ref S, .ref it, .none], []⟩) (fun r s₂ => ∃ v, r = .ok (.ret v) ∧ v = .none ∧ EP X pins σ Q (.ref S) s₂) s3 := fun s3 I6 st3 =>
    keys_loop (A1 := X.A.in1) (kvs := kvs) (show X.A.in1.handled = none from I.ok.hd hc) h1 hlen (fun s1 J => ⟨_, rfl, rfl, fin s1 J⟩) kvs.length 0 s3 (by omega) (Nat.zero_le _) (by rw [List.take_zero]; exact I6) st3 fpG hnH itS neD hd
  refine wpAny_ite_split (fun _ => ?_) (fun _ => wpAny_pure ⟨plainId_quiet PySem.F.plain_extend_loop _, ?_⟩)
  · refine wpAny_bind (wpAny_rule ?_)
    refine wpAny_bind ?_
    show wpAny _ _ (updateSeq S (·.push .none) >>= fun _ => updateSeq S (·.pop)) _ _ _
    obtain ⟨z, its, c, r3, hl3, e3⟩ := I5.lstM upd_same
    cases r3
    refine wpAny_bind (wpAny_updateSeq e3 rfl ?_)
    have I6 := I5.lset (f := (·.push Value.none)) (its' := [Value.none]) (ys := [.non]) (t' := s2.toks) upd_same e3 (by simp) (.cons rfl .nil) (by rw [List.length_singleton, sizeLine_eq]; decide)
    obtain ⟨z4, its4, k4, r4, hl4, e4⟩ := I6.lstM upd_same
    obtain ⟨u4, rfl, ru4⟩ := r4.one
    refine wpAny_updateSeq e4 rfl ?_ (by show 1 ≤ sizeLine; rw [sizeLine_eq]; decide) (by show 0 ≤ sizeLine + 1; exact Nat.zero_le _)
    have I7 := I6.lset (f := (·.pop)) (its := [u4]) (its' := []) (ys := []) (t' := s2.toks) upd_same e4 (by rfl) .nil (Nat.zero_le _)
    rw [upd_upd, upd_upd] at I7
    have o1 : ∀ oi, s2.heap.get? it = some oi → ((s2.heap.update S (Obj.mapSeq (·.push Value.none))).update S (Obj.mapSeq (·.pop))).get? it = some oi := fun oi e => (Heap.get?_update_other _ _ (Ne.symm itS)).trans ((Heap.get?_update_other _ _ (Ne.symm itS)).trans e)
    refine wpAny_pure ⟨plainId_quiet PySem.F.plain_extend_loop _, ?_⟩
    refine codeAny_mono (loop _ I7 (st2.at o1)) fun r s₂ z => ?_
    obtain ⟨v, rfl, rfl, z⟩ := z
    exact ⟨rfl, z⟩
  · refine codeAny_mono (loop _ I5 st2) fun r s₂ z => ?_
    obtain ⟨v, rfl, rfl, z⟩ := z
    exact ⟨rfl, z⟩
end
end KZ
end

section
set_option Elab.async false
set_option linter.all false
set_option maxRecDepth 100000
set_option maxHeartbeats 4000000
/-! tuples that hold instances with an own __eq__: != of equal ones -/
namespace KZ
open PySem PySem.Spec PyProof.Rows L2
section
open PySem.SeqAt
open MeetsSeq MeetsSeq2 MeetsSeq3 SeqRoads2
open AutoSeq1 (wpAny_loadPart')
variable {prog : Program} {w : World} {A : Around} {R : Result → Shared → Prop} {E : Value → Shared → Prop} {s : Shared}
theorem tup_neG (l b : Addr) (us vs : Array Value) (n n2 : Nat) (dd dd2 : Option Addr) (sl sl2 : Array (Option Value)) (hz : us.size = vs.size) (J : Shared → Prop)
    (step : ∀ j (h1 : j < us.size) (h2 : j < vs.size) s, J s → wpAny (model prog w) A.in1 (eqBool us[j] vs[j]) (fun r s' => r = true ∧ J s') (fun e s' => R (.error e) s') s)
    (done : ∀ s, J s → R (.ok (.ret (.bool false))) s) (h : J s) (hl : s.heap.get? l = some { cls := .type "tuple", dict := dd, data := .seq us n, slots := sl }) (hb : s.heap.get? b = some { cls := .type "tuple", dict := dd2, data := .seq vs n2, slots := sl2 }) :
    wpAny (model prog w) A.in1 (Builtin.«tuple.__ne__» ⟨[.ref l, .ref b], []⟩) (GQ.FinOf prog w A R) (fun e s' => R (.error e) s') s := by
  have sub := AutoSeq1.sub_tuple_tuple
  have lz : (us.toList.zip vs.toList).length = us.size := by simp [hz]
  have h0 := h
  obtain ⟨hp, g, d, tk, os⟩ := s
  wp_walk using wpAny_loadPart' hl, wpAny_loadPart' hb, wpAny_forIn_list _ (fun rest q s' => q.1 = none ∧ ∃ j, rest = (us.toList.zip vs.toList).drop j ∧ j ≤ us.size ∧ J s') _
  case turn =>
    rintro ⟨y, x⟩ rest q s' ⟨hq, j, hr, hj, hJ⟩
    have lt : j < (us.toList.zip vs.toList).length := by
      rcases Nat.lt_or_ge j (us.toList.zip vs.toList).length with z | z
      · exact z
      · rw [List.drop_of_length_le z] at hr; cases hr
    have l1 : j < us.size := lz ▸ lt
    have l2 : j < vs.size := hz ▸ l1
    rw [List.drop_eq_getElem_cons lt] at hr
    injection hr with e1 e2
    have ey : y = us[j] := by have := congrArg Prod.fst e1; simpa using this
    have ex : x = vs[j] := by have := congrArg Prod.snd e1; simpa using this
    subst ey ex
    refine wpAny_bind (wpAny_mono (step j l1 l2 s' hJ) (fun r s2 z => ?_) fun _ _ z => z)
    obtain ⟨er, z⟩ := z
    subst er
    wp_walk
    exact ⟨rfl, j + 1, e2, l1, z⟩
  case fin =>
    rintro ⟨b1, b2⟩ s' ⟨hq, j, hr, hj, hJ⟩
    simp only at hq
    subst hq
    have hR : R (.ok (.ret (.bool false))) s' := done s' hJ
    wp_walk
    simpa [Builtin.Tuple.tupleCompareSizes, hz] using hR
  case h =>
    exact ⟨rfl, 0, rfl, Nat.zero_le _, h0⟩
theorem rc_tup_neG {l b : Addr} {us vs : Array Value} {Q : Value → Shared → Prop} (hz : us.size = vs.size) (hu : A.units < cLine) (J : Shared → Prop) (hl : s.heap.IsTuple l us) (hb : s.heap.IsTuple b vs)
    (step : ∀ j (h1 : j < us.size) (h2 : j < vs.size) s, J s → wpAny (model prog w) A.in1 (eqBool us[j] vs[j]) (fun r s' => r = true ∧ J s') E s) (done : ∀ s, J s → Q (.bool false) s) (h : J s) : wpAny (model prog w) A (richCompare .NotEq (.ref l) (.ref b)) Q E s := by
  obtain ⟨⟨c1, d1, a1, s1⟩, o1, k1, n1, e1⟩ := id hl
  obtain ⟨⟨c2, d2, a2, s2⟩, o2, k2, n2, e2⟩ := id hb
  simp only at k1 e1 k2 e2
  subst k1 e1 k2 e2
  refine wpAny_richCompare_same_room (op := .NotEq) ⟨_, o1, rfl⟩ ⟨_, o2, rfl⟩ PySem.F.slot_tuple_ne (GQ.call_here PySem.F.slot_tuple_ne ⟨_, o1, rfl⟩ PySem.F.entry_tuple_ne (PySem.F.args_tuple_ne_2 _ _) ?_) hu
  exact tup_neG (R := wants (fun v s' => v ≠ .notImplemented ∧ Q v s') E) l b us vs n1 n2 d1 d2 s1 s2 hz J step (fun s' q => ⟨(fun x => nomatch x), done s' q⟩) h o1 o2
end
section
variable {X : Cx} {n : Nat} {D : Eqv}
/-- x != y, tuples that are equal -/
def rNeTup (K : PySem.W.Frag) (D : Eqv) : R2 := fun x y H Q => DTup K D x y H ∧ ∀ H', Ext H H' → Q (.bl false) H'
theorem op_neTupG (hD : Mon D) (h : EqG X n D) (hr : Room (n + 1) X.A) : OpR X (compareOp .NotEq) (rNeTup X.K D) := by
  intro pins s σ H x y u v Q I rx ry hq
  obtain ⟨⟨a, b, xs, ys, rfl, rfl, ha, hb, p⟩, q⟩ := hq
  cases (show u = Value.ref a from rx)
  cases (show v = Value.ref b from ry)
  obtain ⟨its, r, e, z⟩ := I.tuple ha
  obtain ⟨its2, r2, e2, z2⟩ := I.tuple hb
  have hz : its.toArray.size = its2.toArray.size := by rw [List.size_toArray, List.size_toArray, ← r.length, ← r2.length]; exact p.1
  have sb : Sub X (n + 1) X.A := ⟨hr, rfl⟩
  show wpAny (model X.prog X.w) X.A (richCompare .NotEq (.ref a) (.ref b)) (EP X pins σ Q) X.xe s
  exact rc_tup_neG hz hr.units0 (fun s' => LoopI X pins σ H s') e e2 (fun j h1 h2 s' l => turnG hD h sb p r r2 j h1 h2 s' l) (fun s' ⟨H', I', ex⟩ => ⟨.bl false, H', I', rfl, q H' ex⟩) ⟨H, I, Ext.rfl'⟩
end
end KZ
end

section
set_option Elab.async false
set_option linter.all false
set_option maxRecDepth 100000
set_option maxHeartbeats 4000000
/-! == of two locked dicts whose values are compared by an own __eq__, whatever it answers -/
namespace KZ
open PySem PySem.Spec PyProof.Rows L2
/-- values that == compares: what it answers -/
abbrev Anw := V → V → Hp → Bool → Prop
def EqB (X : Cx) (n : Nat) (D : Anw) : Prop := ∀ (A : Around) (pins : List (Addr × Obj)) (s : Shared) (σ : L2.St) (H : Hp) (x y : V) (u v : Value) (r : Bool), Sub X n A → Inv X pins σ H s → RelV x u → RelV y v → D x y H r →
  ∀ (E : Value → Shared → Prop) (Q : Bool → Shared → Prop), (∀ s', Inv X pins σ H s' → Q r s') → wpAny (model X.prog X.w) A (eqBool u v) Q E s
section
variable {X : Cx} {n : Nat}
/-- instances of one class: the same, or asked by the own == -/
def DOwn (C : Addr) (sp : Sp) : Anw := fun x y H r => ∃ a b dx dy fs gs, x = .ref a ∧ y = .ref b ∧ H a = some (.ins C dx fs) ∧ H b = some (.ins C dy gs) ∧ ((a = b ∧ r = true) ∨ (a ≠ b ∧ sp [.ref a, .ref b] H (fun v H' => v = .bl r ∧ H' = H) fun _ _ _ => False))
theorem eqB_own {C f : Addr} {fd : FuncData} {ps : List Str} {sp : Sp} (F : FnOk X.prog X.w X.K X.mg X.base CX0 n f fd ps sp) (O : OwnEqF X.K C f fd ps) : EqB X n (DOwn C sp) := by
  intro A pins s σ H x y u v r sb I rx ry d E Q q
  obtain ⟨a, b, dx, dy, fs, gs, rfl, rfl, ha, hb, d⟩ := d
  cases (show u = Value.ref a from rx)
  cases (show v = Value.ref b from ry)
  rcases d with ⟨rfl, rfl⟩ | ⟨ne, d⟩
  · exact SeqAt.EqAt.same (A := A) (s := s) (.ref a) X.prog X.w E _ (q s I)
  · obtain ⟨mA, J, _⟩ := ins_get I.hok ha
    obtain ⟨mB, J', _⟩ := ins_get I.hok hb
    obtain ⟨od, J, _⟩ := J.look
    obtain ⟨od', J', _⟩ := J'.look
    obtain ⟨m, hF⟩ := I.fr
    refine GQ.eqBool_refG ne (PySem.W.cmp_K (op := .Eq) (tb := .ref C) sb.room.units0 hF I.ok.mod.kin J J'.type (by simp [PySem.W.notFirst]) O.eq O.fn ?_)
    have e0 : Env0 X.prog X.w X.K X.mg X.base A X.stack s H := by
      have e := I.env0
      exact ⟨by rw [sb.fr]; exact e.frames, e.mod, e.bs, e.bsz, e.funs, e.frf, e.hok, e.bare⟩
    have hl := F.len _ _ _ _ d
    refine wpAny_call (codeAny_mono (F.run A X.stack s H ⟨[.ref a, .ref b], []⟩ [.ref a, .ref b] [.ref a, .ref b] _ _ sb.room e0 (by
      have z := O.b s [.ref a, .ref b] I.kIn (by simpa using hl)
      simpa using z) (.cons rfl (.cons rfl .nil)) d) fun res s' hq => ?_)
    rcases res with er | fl
    · exact False.elim hq
    · cases fl with
      | ret w =>
        obtain ⟨z, H', I', rz, ez, eH⟩ := I.after hq
        subst ez
        subst eH
        cases (show w = Value.bool r from rz)
        exact ⟨r, rfl, q s' I'⟩
      | _ => exact False.elim hq
/-- what two dicts say: all of the first is in the second -/
def allIn (ls : List (Key × V)) (e : Key → Bool) (ks : List (Key × V)) : Bool := ks.all fun p => (valV ls p.1).isSome && e p.1
variable {D : Anw} {pins : List (Addr × Obj)} {σ : L2.St} {H : Hp}
theorem pairs_own {A : Around} {s : Shared} {nm : String} {a b : Addr} {oa ob : Obj} {ka kb : List (Key × V)} {e : Key → Bool} {E : Value → Shared → Prop} {Q : Bool → Shared → Prop} (EB : EqB X n D) (sb : Sub X n A) (I : Inv X pins σ H s) (ha : H a = some (.frz oa (.dK ka))) (hb : H b = some (.frz ob (.dK kb)))
    (hits : ∀ p ∈ ka, ∀ u, valV kb p.1 = some u → D p.2 u H (e p.1)) (q : ∀ s', Inv X pins σ H s' → Q (ka.length == kb.length && allIn kb e ka) s') : wpAny (model X.prog X.w) A (Builtin.Dict.samePairs nm a b) Q E s := by
  obtain ⟨sa, ga, xa, es, ep, va, da, za, ra, ma⟩ := I.frzK ha
  obtain ⟨sb_, gb, xb, es', ep', vb, db, zb, rb, mb⟩ := I.frzK hb
  obtain ⟨oa1, es1, ga1, _, da1, ka1, pa1, _⟩ := id ma
  obtain ⟨ob1, es2, gb1, _, db1, kb1, pb1, _⟩ := id mb
  rw [ga] at ga1
  cases ga1
  rw [gb] at gb1
  cases gb1
  obtain ⟨rfl, _⟩ := dict_ep da da1
  obtain ⟨rfl, _⟩ := dict_ep db db1
  have la : va.length = es1.size := by rw [← pa1.length]; exact Array.length_toList
  have lb : vb.length = es2.size := by rw [← pb1.length]; exact Array.length_toList
  have hfind : ∀ k, findBy (mixKind X.prog X.w).is es2 k = valueAt vb k := fun k => by
    rw [← pb1.find k]
    obtain ⟨l⟩ := es2
    simp [findBy]
  have at_a : ∀ s', Inv X pins σ H s' → s'.heap.get? a = some oa := fun s' I' => (I'.frzK ha).2.1
  have at_b : ∀ s', Inv X pins σ H s' → s'.heap.get? b = some ob := fun s' I' => (I'.frzK hb).2.1
  unfold Builtin.Dict.samePairs Builtin.Dict.showsAll
  rw [if_neg (show ¬ (a == sysModules) = true by rw [sa]; exact Bool.false_ne_true), if_neg (show ¬ (b == sysModules) = true by rw [sb_]; exact Bool.false_ne_true)]
  refine wpAny_bind (wpAny_pure (wpAny_bind (wpAny_pure ?_)))
  refine wpAny_bind (wpAny_dictEntries ga da ?_)
  dsimp only
  refine wpAny_bind (wpAny_dictEntries gb db ?_)
  by_cases hsz : es1.size = es2.size
  case neg =>
    rw [if_pos (by simpa using hsz)]
    have z := q s I
    rw [show (ka.length == kb.length) = false from by rw [← za, ← zb]; simpa using hsz, Bool.false_and] at z
    exact wpAny_bind (wpAny_rule (wpAny_pure z))
  case pos =>
    have q' : ∀ s', Inv X pins σ H s' → Q (allIn kb e ka) s' := fun s' I' => by
      have z := q s' I'
      rwa [show (ka.length == kb.length) = true from by rw [← za, ← zb]; simpa using hsz, Bool.true_and] at z
    rw [if_neg (by rw [hsz]; simp)]
    refine wpAny_bind (wpAny_dictEpoch ga da ?_)
    refine wpAny_bind ?_
    rw [Std.Legacy.Range.forIn_eq_forIn_range']
    simp only [Std.Legacy.Range.size, Nat.sub_zero, Nat.add_sub_cancel, Nat.div_one]
    refine wpAny_forIn_list _
      (fun rest t s' => Inv X pins σ H s' ∧ t = (none, ()) ∧ ∃ i, rest = List.range' i (es1.size - i) ∧ i ≤ es1.size ∧ allIn kb e ka = allIn kb e (ka.drop i))
      _ ?_ ?_ _ _ ⟨I, rfl, 0, by simp, Nat.zero_le _, rfl⟩
    · rintro x rest t s' ⟨I', rfl, i, hr, hi, hpre⟩
      have hlt : i < es1.size := by
        rcases Nat.lt_or_ge i es1.size with h | h
        · exact h
        · rw [Nat.sub_eq_zero_of_le h] at hr; simp at hr
      obtain ⟨rfl, hrest⟩ : x = i ∧ rest = List.range' (i + 1) (es1.size - (i + 1)) := by
        have e : es1.size - i = (es1.size - (i + 1)) + 1 := by omega
        rw [e, List.range'_succ] at hr
        injection hr with h1 h2
        exact ⟨h1, h2⟩
      have ltv : x < va.length := by rw [la]; exact hlt
      have ltk : x < ka.length := by rw [← za]; exact hlt
      obtain ⟨k, v, hkv⟩ : ∃ k v, ka[x] = (k, v) := ⟨_, _, rfl⟩
      obtain ⟨w1, hw1, rw1⟩ := kv_get ra (show ka[x]? = some (k, v) from by rw [List.getElem?_eq_getElem ltk, hkv])
      obtain ⟨hkey, hval⟩ := pa1.get? (i := x) (e := es1[x]) (k := k) (v := w1) (by rw [Array.getElem?_toList]; exact Array.getElem?_eq_getElem hlt) hw1
      obtain ⟨k', hk', hh⟩ := ka1 es1[x] (Array.getElem_mem hlt)
      have ekk : k' = k := (mixKind X.prog X.w).inj _ _ _ hk' hkey
      rw [ekk] at hh
      have hdrop : ka.drop x = (k, v) :: ka.drop (x + 1) := by rw [← hkv]; exact List.drop_eq_getElem_cons ltk
      have step : allIn kb e (ka.drop x) = ((valV kb k).isSome && e k && allIn kb e (ka.drop (x + 1))) := by rw [hdrop]; rfl
      refine wpAny_bind (wpAny_dictEntries (at_a s' I') da ?_)
      rw [Array.getElem?_eq_getElem hlt]
      show wpAny _ _ (holding [es1[x].key, es1[x].val] _ >>= _) _ _ _
      rw [hh]
      refine wpAny_bind (wpAny_holding (wpAny_bind (wpAny_dictFind_of hkey (at_b s' I') db kb1 ?_)))
      have rel := rb.val k
      cases hj : es2.findIdx? fun e => (mixKind X.prog X.w).is k e.key with
      | none =>
        have hn : valueAt vb k = none := by rw [← hfind k, findBy_of_findIdx?, hj]
        rw [hn] at rel
        have hv : valV kb k = none := by
          cases hv : valV kb k with
          | none => rfl
          | some z =>
            rw [hv] at rel
            exact False.elim rel
        refine wpAny_pure ?_
        show wpAny _ _ (if (!false) = true then _ else _) _ _ _
        rw [if_pos (by decide)]
        have z := q' s' I'
        rw [hpre, step, hv] at z
        exact wpAny_pure (wpAny_pure z)
      | some j =>
        obtain ⟨hjlt, _, _⟩ := Array.findIdx?_eq_some_iff_getElem.mp hj
        have hv' : valueAt vb k = some es2[j].val := by
          rw [← hfind k, findBy_of_findIdx?, hj]
          simp [Array.getElem?_eq_getElem hjlt]
        rw [hv'] at rel
        obtain ⟨y, hy, ry⟩ : ∃ y, valV kb k = some y ∧ RelV y es2[j].val := by
          cases hv : valV kb k with
          | none =>
            rw [hv] at rel
            exact False.elim rel
          | some z =>
            rw [hv] at rel
            exact ⟨z, rfl, rel⟩
        refine wpAny_bind (wpAny_dictEntries (at_b s' I') db ?_)
        rw [Array.getElem?_eq_getElem hjlt]
        have dd := hits (k, v) (by rw [← hkv]; exact List.getElem_mem ltk) y hy
        rw [← hval] at rw1
        refine wpAny_holding (EB A pins s' σ H v y _ _ (e k) sb I' rw1 ry dd _ _ fun s2 I2 => ?_)
        rw [hy, Option.isSome_some, Bool.true_and] at step
        cases he : e k with
        | false =>
          show wpAny _ _ (if (!false) = true then _ else _) _ _ _
          rw [if_pos (by decide)]
          have z := q' s2 I2
          rw [hpre, step, he, Bool.false_and] at z
          exact wpAny_pure (wpAny_pure z)
        | true =>
          rw [he, Bool.true_and] at step
          show wpAny _ _ (if (!true) = true then _ else _) _ _ _
          rw [if_neg (by decide)]
          refine wpAny_bind (wpAny_dictEpoch (at_a s2 I2) da ?_)
          rw [if_neg (by simp)]
          exact wpAny_pure ⟨I2, rfl, x + 1, hrest, hlt, hpre.trans step⟩
    · rintro t s' ⟨I', rfl, i, hr, hi, hpre⟩
      have hin : i = es1.size := by
        rcases Nat.lt_or_ge i es1.size with h | h
        · have e : es1.size - i = (es1.size - (i + 1)) + 1 := by omega
          rw [e, List.range'_succ] at hr; exact nomatch hr
        · exact Nat.le_antisymm hi h
      refine wpAny_pure ?_
      have z := q' s' I'
      rw [hpre, hin, za, List.drop_length] at z
      exact z
/-- a == b, both locked -/
def rEqDL (D : Anw) : R2 := fun x y H Q => ∃ a b oa ob ka kb e, x = .ref a ∧ y = .ref b ∧ H a = some (.frz oa (.dK ka)) ∧ H b = some (.frz ob (.dK kb)) ∧ (∀ p ∈ ka, ∀ u, valV kb p.1 = some u → D p.2 u H (e p.1)) ∧ Q (.bl (ka.length == kb.length && allIn kb e ka)) H
theorem op_eqDL (EB : EqB X n D) (hr : Room (n + 1) X.A) : OpR X (compareOp .Eq) (rEqDL D) := by
  intro pins s σ H x y u v Q I rx ry h
  obtain ⟨a, b, oa, ob, ka, kb, e, rfl, rfl, ha, hb, hits, q⟩ := h
  cases (show u = Value.ref a from rx)
  cases (show v = Value.ref b from ry)
  obtain ⟨sa, ga, xa, es, ep, va, da, za, ra, ma⟩ := I.frzK ha
  obtain ⟨sb_, gb, xb, es', ep', vb, db, zb, rb, mb⟩ := I.frzK hb
  have ta : s.TypeIs (.ref a) "dict" := ⟨oa, ga, xa.1⟩
  have tb : s.TypeIs (.ref b) "dict" := ⟨ob, gb, xb.1⟩
  have sb : Sub X (n + 1) X.A := ⟨hr, rfl⟩
  show wpAny (model X.prog X.w) X.A (richCompare .Eq (.ref a) (.ref b)) (EP X pins σ Q) X.xe s
  refine wpAny_richCompare_same_room (op := .Eq) ta tb PySem.F.slot_dict_eq (wpAny_call_entry PySem.F.slot_dict_eq ta PySem.F.entry_dict_eq ?_ (PySem.F.args_dict_eq_2 _ _)) hr.units0
  show wpAny _ _ (Builtin.Dict.dictSlotArgs "__eq__" ⟨[.ref a, .ref b], []⟩ >>= _) _ _ s
  refine wpAny_bind ?_
  unfold Builtin.Dict.dictSlotArgs
  refine wpAny_bind (wpAny_notOrdered_dict ta ?_)
  show wpAny _ _ (pure (Value.ref a, Value.ref b)) _ _ s
  refine wpAny_pure ?_
  refine wpAny_bind (wpAny_isInstance (T := "dict") tb PySem.F.sub_dict_dict ?_)
  simp only [Bool.not_true, Bool.false_eq_true, if_false]
  refine wpAny_bind (wpAny_pure (wpAny_bind (wpAny_pure ?_)))
  refine wpAny_bind (pairs_own EB sb.in1 I ha hb hits fun s' I' => ?_)
  refine wpAny_pure ⟨_, rfl, (fun z => nomatch z), ?_⟩
  exact ⟨.bl (ka.length == kb.length && allIn kb e ka), H, I', by rw [beq_true]; exact rfl, q⟩
end
end KZ
end

section
set_option Elab.async false
set_option linter.all false
set_option maxRecDepth 100000
set_option maxHeartbeats 4000000
/-! == and != of the same data, lists and dicts within each other -/
namespace KZ
open PySem PySem.Spec PyProof.Rows L2
section
open PySem.SeqAt
open MeetsSeq MeetsSeq2 MeetsSeq3 SeqRoads2
open AutoSeq1 (wpAny_loadPart')
variable {prog : Program} {w : World}
theorem ne_loop_same (l b : Addr) (us vs : Array Value) (n n2 : Nat) (dd dd2 : Option Addr) (sl sl2 : Array (Option Value)) (hz : us.size = vs.size) : ∀ (m i : Nat), us.size = i + m →
    MeetsIn prog w (Builtin.«list.__eq__.loop» ⟨[.ref l, .ref b, rawInt i, rawInt 3], []⟩) (fun A R s =>
      (s.heap.get? l = some { cls := .type "list", dict := dd, data := .seq us n, slots := sl } ∧ s.heap.get? b = some { cls := .type "list", dict := dd2, data := .seq vs n2, slots := sl2 }) ∧
      (∀ j (h1 : j < us.size) (h2 : j < vs.size), EqIn prog w A.in1 s us[j] vs[j] true) ∧ R (.ok (.ret (.bool false))) s) := by
  intro m
  induction m with
  | zero =>
    rintro i hm A R ⟨hp, g, d, tk, os⟩ ⟨⟨hl, hb⟩, _, hR⟩
    have u1 : us[((i : Nat) : Int).toNat]? = none := Array.getElem?_eq_none (by rw [Int.toNat_natCast]; omega)
    have u2 : vs[((i : Nat) : Int).toNat]? = none := Array.getElem?_eq_none (by rw [Int.toNat_natCast]; omega)
    wp_walk using wpAny_loadPart' hl, wpAny_loadPart' hb
    rw [u1, u2]
    wp_walk using wpAny_loadPart' hl, wpAny_loadPart' hb
    show R (.ok (.ret (.bool (us.size != vs.size)))) _
    rw [show (us.size != vs.size) = false from by rw [hz]; exact bne_self_eq_false _]
    exact hR
  | succ m ih =>
    rintro i hm A R ⟨hp, g, d, tk, os⟩ ⟨⟨hl, hb⟩, he, hR⟩
    have l1 : i < us.size := by omega
    have l2 : i < vs.size := by omega
    have u1 : us[((i : Nat) : Int).toNat]? = some us[i] := by rw [Int.toNat_natCast]; exact Array.getElem?_eq_getElem l1
    have u2 : vs[((i : Nat) : Int).toNat]? = some vs[i] := by rw [Int.toNat_natCast]; exact Array.getElem?_eq_getElem l2
    wp_walk using wpAny_loadPart' hl, wpAny_loadPart' hb
    rw [u1, u2]
    refine wpAny_bind (he i l1 l2 _ _ ?_)
    wp_walk
    rw [show ((i : Nat) : Int) + 1 = ((i + 1 : Nat) : Int) from rfl]
    exact ⟨plainId_quiet plain_eq_loop _, codeAny_builtin entry_eq_loop (by
      rw [Around.under_plainId plain_eq_loop _]
      exact ih (i + 1) (by omega) A R _ ⟨⟨hl, hb⟩, he, hR⟩)⟩
theorem list_ne_same (l b : Addr) (us vs : Array Value) (n n2 : Nat) (dd dd2 : Option Addr) (sl sl2 : Array (Option Value)) (hz : us.size = vs.size) :
    MeetsIn prog w (Builtin.«list.__ne__» ⟨[.ref l, .ref b], []⟩) (fun A R s =>
      (s.heap.get? l = some { cls := .type "list", dict := dd, data := .seq us n, slots := sl } ∧ s.heap.get? b = some { cls := .type "list", dict := dd2, data := .seq vs n2, slots := sl2 }) ∧
      (∀ j (h1 : j < us.size) (h2 : j < vs.size), EqIn prog w A.in1 s us[j] vs[j] true) ∧ R (.ok (.ret (.bool false))) s) := by
  rintro A R ⟨hp, g, d, tk, os⟩ ⟨⟨hl, hb⟩, he, hR⟩
  have sub := AutoSeq1.sub_list_list
  have nz : ¬ (us.size != vs.size) = true := by rw [hz, bne_self_eq_false _]; exact Bool.false_ne_true
  wp_walk using wpAny_loadPart' hl, wpAny_loadPart' hb
  exact ⟨plainId_quiet plain_eq_loop _, codeAny_builtin entry_eq_loop (by
    rw [Around.under_plainId plain_eq_loop _]
    exact ne_loop_same l b us vs n n2 dd dd2 sl sl2 hz us.size 0 (by omega) A R _ ⟨⟨hl, hb⟩, he, hR⟩)⟩
theorem rc_ne_same {A : Around} {s : Shared} {E Q : Value → Shared → Prop} {l b : Addr} {us vs : Array Value} (hl : s.heap.IsList l us) (hb : s.heap.IsList b vs) (hz : us.size = vs.size) (hu : A.units < cLine)
    (he : ∀ j (h1 : j < us.size) (h2 : j < vs.size), EqIn prog w A.in1 s us[j] vs[j] true) (h : Q (.bool false) s) : wpAny (model prog w) A (richCompare .NotEq (.ref l) (.ref b)) Q E s := by
  obtain ⟨⟨c1, d1, a1, s1⟩, o1, k1, n1, e1⟩ := id hl
  obtain ⟨⟨c2, d2, a2, s2⟩, o2, k2, n2, e2⟩ := id hb
  simp only at k1 e1 k2 e2
  subst k1 e1 k2 e2
  exact wpAny_richCompare_same_room (T := "list") (op := .NotEq) ⟨_, o1, rfl⟩ ⟨_, o2, rfl⟩ F.slot_list_ne (call_meetsIn F.slot_list_ne ⟨_, o1, rfl⟩ F.entry_list_ne (F.args_list_ne_2 _ _) (list_ne_same l b us vs n1 n2 d1 d2 s1 s2 hz)
    ⟨⟨o1, o2⟩, he, show Value.bool false ≠ Value.notImplemented ∧ Q (.bool false) s from ⟨(fun z => nomatch z), h⟩⟩) hu
end
/-- the same data, so deep -/
inductive Smd (K : PySem.W.Frag) (H : Hp) : Nat → V → V → Prop
  | int {n : Nat} (i : Int) : Smd K H n (.int i) (.int i)
  | lst {n : Nat} {a b : Addr} {xs ys : List V} : SqL K H a xs → SqL K H b ys → xs.length = ys.length → (∀ (j : Nat) (x y : V), xs[j]? = some x → ys[j]? = some y → Smd K H n x y) → Smd K H (n + 1) (.ref a) (.ref b)
  | dic {n : Nat} {a b : Addr} {k : Key} {x y : V} : H a = some (.dK [(k, x)]) → H b = some (.dK [(k, y)]) → Smd K H n x y → Smd K H (n + 1) (.ref a) (.ref b)
section
variable {X : Cx} {pins : List (Addr × Obj)} {σ : L2.St} {H : Hp} {s : Shared}
theorem kv_one {k : Key} {x : V} {kvs : List (Key × Value)} (h : KV [(k, x)] kvs) : ∃ v, kvs = [(k, v)] ∧ RelV x v := by
  cases h with
  | cons a b =>
    rename_i q l
    cases b
    obtain ⟨q1, q2⟩ := q
    obtain ⟨e, r⟩ := a
    exact ⟨q2, by rw [show k = q1 from e], r⟩
theorem sq_items (I : Inv X pins σ H s) {a b : Addr} {xs ys : List V} (h1 : SqL X.K H a xs) (h2 : SqL X.K H b ys) (hz : xs.length = ys.length) {D : V → V → Prop} (hd : ∀ (j : Nat) (x y : V), xs[j]? = some x → ys[j]? = some y → D x y) :
    ∃ us vs : Array Value, s.heap.IsList a us ∧ s.heap.IsList b vs ∧ us.size = vs.size ∧ ∀ j (h1 : j < us.size) (h2 : j < vs.size), ∃ x y, RelV x us[j] ∧ RelV y vs[j] ∧ D x y := by
  obtain ⟨us, r1, p1, _⟩ := I.list h1
  obtain ⟨vs, r2, p2, _⟩ := I.list h2
  have n1 := r1.length
  have n2 := r2.length
  refine ⟨us.toArray, vs.toArray, p1.isList, p2.isList, by rw [List.size_toArray, List.size_toArray]; omega, fun j j1 j2 => ?_⟩
  rw [List.size_toArray] at j1 j2
  have k1 : j < xs.length := by omega
  have k2 : j < ys.length := by omega
  obtain ⟨u, e1, q1⟩ := r1.get (List.getElem?_eq_getElem k1)
  obtain ⟨v, e2, q2⟩ := r2.get (List.getElem?_eq_getElem k2)
  rw [List.getElem?_eq_getElem j1] at e1
  rw [List.getElem?_eq_getElem j2] at e2
  refine ⟨xs[j], ys[j], ?_, ?_, hd j _ _ (List.getElem?_eq_getElem k1) (List.getElem?_eq_getElem k2)⟩
  · rw [List.getElem_toArray, Option.some.inj e1]
    exact q1
  · rw [List.getElem_toArray, Option.some.inj e2]
    exact q2
theorem Smd.tree (I : Inv X pins σ H s) {n : Nat} {x y : V} (h : Smd X.K H n x y) : ∀ {v u : Value}, RelV x v → RelV y u → PySem.W.EqTree X.prog X.w s n v u true := by
  induction h with
  | int i =>
    intro v u r1 r2
    obtain ⟨t, rfl⟩ := r1
    obtain ⟨t', rfl⟩ := r2
    refine .leaf fun A _ => ?_
    have := SeqAt.EqAt.int_int (A := A) (s := s) i t i t'
    rwa [beq_self_eq_true] at this
  | @lst n a b xs ys h1 h2 hz hd ih =>
    intro v u r1 r2
    obtain rfl : v = Value.ref a := r1
    obtain rfl : u = Value.ref b := r2
    by_cases e : a = b
    · subst e
      exact .same
    · obtain ⟨us, vs, p1, p2, hs, hi⟩ := sq_items I h1 h2 hz (D := fun x y => ∀ {v u : Value}, RelV x v → RelV y u → PySem.W.EqTree X.prog X.w s n v u true) fun j x y e1 e2 => ih j x y e1 e2
      have t := PySem.W.EqTree.lists (prog := X.prog) (w := X.w) (n := n) (e := fun _ => true) e p1 p2 hs fun j j1 j2 => by
        obtain ⟨x, y, q1, q2, d⟩ := hi j j1 j2
        exact d q1 q2
      rwa [show ((List.range us.size).all fun _ => true) = true from List.all_eq_true.mpr fun _ _ => rfl] at t
  | @dic n a b k x y h1 h2 _ ih =>
    intro v u r1 r2
    obtain rfl : v = Value.ref a := r1
    obtain rfl : u = Value.ref b := r2
    by_cases e : a = b
    · subst e
      exact .same
    · obtain ⟨_, ya, va, ra, da⟩ := (show ObjOk X.prog X.w H s.heap a (.dK [(k, x)]) from I.hok a _ h1)
      obtain ⟨_, yb, vb, rb, db⟩ := (show ObjOk X.prog X.w H s.heap b (.dK [(k, y)]) from I.hok b _ h2)
      obtain ⟨v, rfl, q1⟩ := kv_one ra
      obtain ⟨u, rfl, q2⟩ := kv_one rb
      have vt : ∀ z : Value, PySem.valueAt [(k, z)] k = some z := fun z => by simp [PySem.valueAt]
      have t := PySem.W.EqTree.dicts (prog := X.prog) (w := X.w) (n := n) (e := fun _ => true) e ya yb da db fun k' v' y' hm hv => by
        obtain ⟨rfl, rfl⟩ := Prod.mk.inj (List.mem_singleton.mp hm)
        rw [vt] at hv
        cases hv
        exact ih q1 q2
      have e2 : (([(k, v)] : List (Key × Value)).length == ([(k, u)] : List (Key × Value)).length && ([(k, v)] : List (Key × Value)).all fun p => (PySem.valueAt [(k, u)] p.1).isSome && true) = true := by simp [vt]
      rwa [e2] at t
/-- two lists of the same data -/
def rEqS (K : PySem.W.Frag) (neg : Bool) : R2 := fun x y H Q => ∃ a b xs ys, x = .ref a ∧ y = .ref b ∧ SqL K H a xs ∧ SqL K H b ys ∧ xs.length = ys.length ∧ (∀ (j : Nat) (u v : V), xs[j]? = some u → ys[j]? = some v → Smd K H 60 u v) ∧ Q (.bl (!neg)) H
theorem op_eqS (hu : X.A.units + 64 < cLine) : OpR X (compareOp .Eq) (rEqS X.K false) := by
  intro pins s σ H x y v u Q I rx ry h
  obtain ⟨a, b, xs, ys, rfl, rfl, h1, h2, hz, hd, q⟩ := h
  obtain rfl : v = Value.ref a := rx
  obtain rfl : u = Value.ref b := ry
  obtain ⟨us, vs, p1, p2, hs, hi⟩ := sq_items I h1 h2 hz hd
  refine PySem.W.eq_listsT (n := 60) (e := fun _ => true) p1 p2 hs (fun j j1 j2 => ?_) (by omega) ?_
  · obtain ⟨x, y, q1, q2, d⟩ := hi j j1 j2
    exact d.tree I q1 q2
  · rw [show ((List.range us.size).all fun _ => true) = true from List.all_eq_true.mpr fun _ _ => rfl]
    exact ⟨.bl _, H, I, rfl, q⟩
theorem op_neS (hu : X.A.units + 64 < cLine) : OpR X (compareOp .NotEq) (rEqS X.K true) := by
  intro pins s σ H x y v u Q I rx ry h
  obtain ⟨a, b, xs, ys, rfl, rfl, h1, h2, hz, hd, q⟩ := h
  obtain rfl : v = Value.ref a := rx
  obtain rfl : u = Value.ref b := ry
  obtain ⟨us, vs, p1, p2, hs, hi⟩ := sq_items I h1 h2 hz hd
  refine rc_ne_same p1 p2 hs (by omega) (fun j j1 j2 => ?_) ⟨.bl _, H, I, rfl, q⟩
  obtain ⟨x, y, q1, q2, d⟩ := hi j j1 j2
  exact (d.tree I q1 q2).at _ (by show X.A.units + 1 + 60 < cLine; omega)
end
end KZ
end

section
set_option Elab.async false
set_option linter.all false
set_option maxRecDepth 100000
set_option maxHeartbeats 4000000
/-! == of dicts of data, both answers; != of a list and of what is none; == of tuples that hold instances without asking them -/
namespace KZ
open PySem PySem.Spec PyProof.Rows L2
/-- v == u answers b: data, dicts of data -/
inductive Cm (K : PySem.W.Frag) (H : Hp) : Nat → V → V → Bool → Prop
  | dat {n : Nat} {x y : V} {d e : PyData} : 64 ≤ n → Dp K H x d → Dp K H y e → SeqAt.shaped d = true → SeqAt.shaped e = true → Cm K H n x y (PyData.eqv d e)
  | dic {n : Nat} {a b : Addr} {ka kb : List (Key × V)} {e : Key → Bool} : a ≠ b → H a = some (.dK ka) → H b = some (.dK kb) → (∀ p ∈ ka, ∀ u, valV kb p.1 = some u → Cm K H n p.2 u (e p.1)) → Cm K H (n + 1) (.ref a) (.ref b) (ka.length == kb.length && allIn kb e ka)
section
variable {X : Cx} {pins : List (Addr × Obj)} {σ : L2.St} {H : Hp} {s : Shared}
theorem hits_of {P : Program} {w : World} {n : Nat} {ka kb : List (Key × V)} {va vb : List (Key × Value)} {e : Key → Bool} (ra : KV ka va) (rb : KV kb vb) (ih : ∀ p ∈ ka, ∀ u, valV kb p.1 = some u → ∀ {v y : Value}, RelV p.2 v → RelV u y → PySem.W.EqTree P w s n v y (e p.1)) :
    (∀ k v y, (k, v) ∈ va → valueAt vb k = some y → PySem.W.EqTree P w s n v y (e k)) ∧ (va.length == vb.length && va.all fun p => (valueAt vb p.1).isSome && e p.1) = (ka.length == kb.length && allIn kb e ka) := by
  have isS : ∀ k, (valueAt vb k).isSome = (valV kb k).isSome := fun k => by
    have rel := rb.val k
    cases h1 : valV kb k with
    | none =>
      rw [h1] at rel
      rw [RelO.none_of rel]
      rfl
    | some u =>
      rw [h1] at rel
      obtain ⟨y, hy, _⟩ := rel.some_of
      rw [hy]
      rfl
  refine ⟨?_, ?_⟩
  · intro k v y hm hy
    obtain ⟨i, hi, e1⟩ := List.getElem_of_mem hm
    have hl : ka.length = va.length := Paired.length ra
    have ik : i < ka.length := by omega
    obtain ⟨k2, v2, e2⟩ : ∃ k v, ka[i] = (k, v) := ⟨_, _, rfl⟩
    obtain ⟨u', hu, ru⟩ := kv_get ra (show ka[i]? = some (k2, v2) from by rw [List.getElem?_eq_getElem ik, e2])
    rw [List.getElem?_eq_getElem hi, e1] at hu
    cases hu
    have rel := rb.val k
    rw [hy] at rel
    cases h1 : valV kb k with
    | none => rw [h1] at rel; exact False.elim rel
    | some z =>
      rw [h1] at rel
      exact ih (k, v2) (by rw [← e2]; exact List.getElem_mem ik) z h1 ru rel
  · have hl : ka.length = va.length := Paired.length ra
    have hl2 : kb.length = vb.length := Paired.length rb
    have all : (va.all fun p => (valueAt vb p.1).isSome && e p.1) = allIn kb e ka := by
      clear ih hl
      unfold allIn
      unfold KV at ra
      induction ra with
      | nil => rfl
      | @cons p q ps qs h _ ih =>
        rw [List.all_cons, List.all_cons, ih, show p.1 = q.1 from h.1, isS]
    rw [all, hl, hl2]
theorem Cm.tree (I : Inv X pins σ H s) {n : Nat} {x y : V} {b : Bool} (h : Cm X.K H n x y b) : ∀ {v u : Value}, RelV x v → RelV y u → PySem.W.EqTree X.prog X.w s n v u b := by
  induction h with
  | @dat n x y d e hn h1 h2 s1 s2 =>
    intro v u r1 r2
    obtain ⟨as, q1⟩ := Dp.reads I d x v h1 r1
    obtain ⟨bs, q2⟩ := Dp.reads I e y u h2 r2
    refine .leaf fun A hu => SeqAt.eqAt_reads d e A s v u as bs q1 q2 (SeqAt.canLay_of_shaped s1) (SeqAt.canLay_of_shaped s2) (SeqAt.room_of_shaped s1 (by omega))
  | @dic n a b ka kb e ne h1 h2 _ ih =>
    intro v u r1 r2
    obtain rfl : v = Value.ref a := r1
    obtain rfl : u = Value.ref b := r2
    obtain ⟨_, ya, va, ra, da⟩ := (show ObjOk X.prog X.w H s.heap a (.dK ka) from I.hok a _ h1)
    obtain ⟨_, yb, vb, rb, db⟩ := (show ObjOk X.prog X.w H s.heap b (.dK kb) from I.hok b _ h2)
    obtain ⟨t1, t2⟩ := hits_of (s := s) ra rb ih
    have t := PySem.W.EqTree.dicts (prog := X.prog) (w := X.w) (n := n) (e := e) ne ya yb da db t1
    rwa [t2] at t
/-- a == b, two dicts -/
def rEqDic (K : PySem.W.Frag) : R2 := fun x y H Q => ∃ a b ka kb e n, x = .ref a ∧ y = .ref b ∧ H a = some (.dK ka) ∧ H b = some (.dK kb) ∧ n ≤ 100 ∧ (∀ p ∈ ka, ∀ u, valV kb p.1 = some u → Cm K H n p.2 u (e p.1)) ∧ Q (.bl (ka.length == kb.length && allIn kb e ka)) H
theorem op_eqDic (hr : Room 0 X.A) : OpR X (compareOp .Eq) (rEqDic X.K) := by
  intro pins s σ H x y u v Q I rx ry h
  obtain ⟨a, b, ka, kb, e, n, rfl, rfl, ha, hb, hn, hh, q⟩ := h
  cases (show u = Value.ref a from rx)
  cases (show v = Value.ref b from ry)
  obtain ⟨_, ya, va, ra, da⟩ := (show ObjOk X.prog X.w H s.heap a (.dK ka) from I.hok a _ ha)
  obtain ⟨_, yb, vb, rb, db⟩ := (show ObjOk X.prog X.w H s.heap b (.dK kb) from I.hok b _ hb)
  obtain ⟨t1, t2⟩ := hits_of (P := X.prog) (w := X.w) (s := s) (n := n) ra rb fun p hp u hu _ _ r1 r2 => (hh p hp u hu).tree I r1 r2
  refine PySem.W.eq_dictsT (e := e) ya yb da db t1 (by have := hr.un; omega) ?_
  rw [t2]
  exact ⟨.bl _, H, I, rfl, q⟩
end
end KZ
end

section
set_option Elab.async false
set_option linter.all false
set_option maxRecDepth 100000
set_option maxHeartbeats 4000000
/-! != of a list and of what is none; == of tuples up to the first difference -/
namespace KZ
open PySem PySem.Spec PyProof.Rows L2
section
open PySem.SeqAt
open MeetsSeq MeetsSeq2 MeetsSeq3 SeqRoads2
open AutoSeq1 (wpAny_loadPart')
variable {prog : Program} {w : World} {A : Around} {R : Result → Shared → Prop} {E : Value → Shared → Prop} {s : Shared}
theorem tup_eqPre (l b : Addr) (us vs : Array Value) (n n2 : Nat) (dd dd2 : Option Addr) (sl sl2 : Array (Option Value)) (hz : us.size = vs.size) (m : Nat)
    (eqs : ∀ j (h1 : j < us.size) (h2 : j < vs.size), j < m → EqAt A.in1 s us[j] vs[j] true) (nes : ∀ (h1 : m < us.size) (h2 : m < vs.size), EqAt A.in1 s us[m] vs[m] false)
    (done : R (.ok (.ret (.bool (decide (us.size ≤ m))))) s) (hl : s.heap.get? l = some { cls := .type "tuple", dict := dd, data := .seq us n, slots := sl }) (hb : s.heap.get? b = some { cls := .type "tuple", dict := dd2, data := .seq vs n2, slots := sl2 }) :
    wpAny (model prog w) A.in1 (Builtin.«tuple.__eq__» ⟨[.ref l, .ref b], []⟩) (GQ.FinOf prog w A R) (fun e s' => R (.error e) s') s := by
  have sub := AutoSeq1.sub_tuple_tuple
  have lz : (us.toList.zip vs.toList).length = us.size := by simp [hz]
  obtain ⟨hp, g, d, tk, os⟩ := s
  wp_walk using wpAny_loadPart' hl, wpAny_loadPart' hb, wpAny_forIn_list _ (fun rest q s' => q.1 = none ∧ s' = ⟨hp, g, d, tk, os⟩ ∧ ∃ j, rest = (us.toList.zip vs.toList).drop j ∧ j ≤ us.size ∧ j ≤ m) _
  case turn =>
    rintro ⟨y, x⟩ rest q s' ⟨hq, rfl, j, hr, hj, jm⟩
    have lt : j < (us.toList.zip vs.toList).length := by
      rcases Nat.lt_or_ge j (us.toList.zip vs.toList).length with z | z
      · exact z
      · rw [List.drop_of_length_le z] at hr; cases hr
    have l1 : j < us.size := lz ▸ lt
    have l2 : j < vs.size := hz ▸ l1
    rw [List.drop_eq_getElem_cons lt] at hr
    injection hr with e1 e2
    have ey : y = us[j] := by have := congrArg Prod.fst e1; simpa using this
    have ex : x = vs[j] := by have := congrArg Prod.snd e1; simpa using this
    subst ey ex
    rcases Nat.lt_or_ge j m with h | h
    · refine wpAny_bind (eqs j l1 l2 h prog w _ _ ?_)
      wp_walk
      exact ⟨rfl, rfl, j + 1, e2, l1, h⟩
    · obtain rfl : j = m := by omega
      refine wpAny_bind (nes l1 l2 prog w _ _ ?_)
      rw [decide_eq_false (by omega)] at done
      wp_walk
      exact done
  case fin =>
    rintro ⟨b1, b2⟩ s' ⟨hq, rfl, j, hr, hj, jm⟩
    simp only at hq
    subst hq
    have hge : us.size ≤ j := by
      rcases Nat.lt_or_ge j (us.toList.zip vs.toList).length with z | z
      · rw [List.drop_eq_getElem_cons z] at hr; cases hr
      · exact lz ▸ z
    rw [decide_eq_true (by omega)] at done
    wp_walk
    simpa [Builtin.Tuple.tupleCompareSizes, hz] using done
  case h =>
    exact ⟨rfl, rfl, 0, rfl, Nat.zero_le _, Nat.zero_le _⟩
theorem rc_tup_eqPre {l b : Addr} {us vs : Array Value} {m : Nat} {Q : Value → Shared → Prop} (hz : us.size = vs.size) (hu : A.units < cLine) (hl : s.heap.IsTuple l us) (hb : s.heap.IsTuple b vs)
    (eqs : ∀ j (h1 : j < us.size) (h2 : j < vs.size), j < m → EqAt A.in1 s us[j] vs[j] true) (nes : ∀ (h1 : m < us.size) (h2 : m < vs.size), EqAt A.in1 s us[m] vs[m] false) (q : Q (.bool (decide (us.size ≤ m))) s) : wpAny (model prog w) A (richCompare .Eq (.ref l) (.ref b)) Q E s := by
  obtain ⟨⟨c1, d1, a1, s1⟩, o1, k1, n1, e1⟩ := id hl
  obtain ⟨⟨c2, d2, a2, s2⟩, o2, k2, n2, e2⟩ := id hb
  simp only at k1 e1 k2 e2
  subst k1 e1 k2 e2
  refine wpAny_richCompare_same_room (op := .Eq) ⟨_, o1, rfl⟩ ⟨_, o2, rfl⟩ PySem.F.slot_tuple_eq (GQ.call_here PySem.F.slot_tuple_eq ⟨_, o1, rfl⟩ PySem.F.entry_tuple_eq (PySem.F.args_tuple_eq_2 _ _) ?_) hu
  exact tup_eqPre (R := wants (fun v s' => v ≠ .notImplemented ∧ Q v s') E) l b us vs n1 n2 d1 d2 s1 s2 hz m eqs nes ⟨(fun x => nomatch x), q⟩ o1 o2
end
/-- a thing that is seen to be itself -/
def SelfV (x : V) : Prop := (∃ i, x = .int i) ∨ ∃ a, x = .ref a
theorem self_eq {A : Around} {s : Shared} {x : V} {v u : Value} (h : SelfV x) (r1 : RelV x v) (r2 : RelV x u) : SeqAt.EqAt A s v u true := by
  rcases h with ⟨i, rfl⟩ | ⟨a, rfl⟩
  · obtain ⟨t, rfl⟩ := r1
    obtain ⟨t', rfl⟩ := r2
    have := SeqAt.EqAt.int_int (A := A) (s := s) i t i t'
    rwa [beq_self_eq_true] at this
  · obtain rfl : v = Value.ref a := r1
    obtain rfl : u = Value.ref a := r2
    exact SeqAt.EqAt.same _
section
variable {X : Cx}
/-- two tuples: the first m things are the same, then come two ints that differ (or the end) -/
def rEqPre (K : PySem.W.Frag) : R2 := fun x y H Q => ∃ a b xs ys m, x = .ref a ∧ y = .ref b ∧ SqT K H a xs ∧ SqT K H b ys ∧ xs.length = ys.length ∧ (∀ j, j < m → j < xs.length → ∃ z, xs[j]? = some z ∧ ys[j]? = some z ∧ SelfV z) ∧
  (m < xs.length → ∃ i k : Int, xs[m]? = some (.int i) ∧ ys[m]? = some (.int k) ∧ i ≠ k) ∧ Q (.bl (decide (xs.length ≤ m))) H
theorem op_eqPre (hu : X.A.units < cLine) : OpR X (compareOp .Eq) (rEqPre X.K) := by
  intro pins s σ H x y u v Q I rx ry h
  obtain ⟨a, b, xs, ys, m, rfl, rfl, ha, hb, hl, hs, hd, q⟩ := h
  cases (show u = Value.ref a from rx)
  cases (show v = Value.ref b from ry)
  obtain ⟨us, r1, t1, _⟩ := I.tuple ha
  obtain ⟨vs, r2, t2, _⟩ := I.tuple hb
  have n1 := r1.length
  have n2 := r2.length
  show wpAny (model X.prog X.w) X.A (richCompare .Eq (.ref a) (.ref b)) (EP X pins σ Q) X.xe s
  refine rc_tup_eqPre (m := m) (by rw [List.size_toArray, List.size_toArray]; omega) hu t1 t2 (fun j j1 j2 jm => ?_) (fun j1 j2 => ?_) ?_
  · rw [List.size_toArray] at j1 j2
    obtain ⟨z, e1, e2, sv⟩ := hs j jm (by omega)
    obtain ⟨p1, g1, q1⟩ := r1.get e1
    obtain ⟨p2, g2, q2⟩ := r2.get e2
    rw [List.getElem?_eq_getElem j1] at g1
    rw [List.getElem?_eq_getElem j2] at g2
    rw [List.getElem_toArray, List.getElem_toArray, Option.some.inj g1, Option.some.inj g2]
    exact self_eq sv q1 q2
  · rw [List.size_toArray] at j1 j2
    obtain ⟨i, k, e1, e2, ne⟩ := hd (by omega)
    obtain ⟨p1, g1, q1⟩ := r1.get e1
    obtain ⟨p2, g2, q2⟩ := r2.get e2
    rw [List.getElem?_eq_getElem j1] at g1
    rw [List.getElem?_eq_getElem j2] at g2
    rw [List.getElem_toArray, List.getElem_toArray, Option.some.inj g1, Option.some.inj g2]
    obtain ⟨t, rfl⟩ := q1
    obtain ⟨t', rfl⟩ := q2
    have := SeqAt.EqAt.int_int (A := X.A.in1) (s := s) i t k t'
    rwa [show (i == k) = false from by simpa using ne] at this
  · refine ⟨.bl (decide (xs.length ≤ m)), H, I, ?_, q⟩
    rw [List.size_toArray, ← n1]
    exact rfl
/-- what a list is not -/
def NoL (K : PySem.W.Frag) (H : Hp) (y : V) : Prop := y = .non ∨ (∃ i, y = .int i) ∨ (∃ x, y = .str x) ∨ ∃ a xs, y = .ref a ∧ SqT K H a xs
/-- a list != what is none -/
def rNeL (K : PySem.W.Frag) : R2 := fun x y H Q => ((∃ a xs, x = .ref a ∧ SqL K H a xs ∧ NoL K H y) ∨ (∃ a xs, y = .ref a ∧ SqL K H a xs ∧ NoL K H x)) ∧ Q (.bl true) H
theorem op_neL (hu : X.A.units < cLine) : OpR X (compareOp .NotEq) (rNeL X.K) := by
  intro pins s σ H x y u v Q I rx ry h
  obtain ⟨h, q⟩ := h
  have fin : EP X pins σ Q (.bool true) s := ⟨.bl true, H, I, rfl, q⟩
  show wpAny (model X.prog X.w) X.A (richCompare .NotEq u v) (EP X pins σ Q) X.xe s
  rcases h with ⟨a, xs, rfl, ha, h⟩ | ⟨a, xs, rfl, ha, h⟩
  · cases (show u = Value.ref a from rx)
    obtain ⟨us, r1, p1, _⟩ := I.list ha
    rcases h with rfl | ⟨i, rfl⟩ | ⟨z, rfl⟩ | ⟨b, ys, rfl, hb⟩
    · cases (show v = Value.none from ry)
      exact SeqAt.RcNeAt.list_none p1.isList hu X.prog X.w _ _ fin
    · obtain ⟨t, rfl⟩ := ry
      exact SeqAt.RcNeAt.list_int i t p1.isList hu X.prog X.w _ _ fin
    · obtain ⟨t, rfl⟩ := ry
      exact SeqAt.RcNeAt.list_str z t p1.isList hu X.prog X.w _ _ fin
    · cases (show v = Value.ref b from ry)
      obtain ⟨vs, r2, t2, _⟩ := I.tuple hb
      exact SeqAt.RcNeAt.list_tuple p1.isList t2 hu X.prog X.w _ _ fin
  · cases (show v = Value.ref a from ry)
    obtain ⟨us, r1, p1, _⟩ := I.list ha
    rcases h with rfl | ⟨i, rfl⟩ | ⟨z, rfl⟩ | ⟨b, ys, rfl, hb⟩
    · cases (show u = Value.none from rx)
      exact SeqAt.RcNeAt.none_list p1.isList hu X.prog X.w _ _ fin
    · obtain ⟨t, rfl⟩ := rx
      exact SeqAt.RcNeAt.int_list i t p1.isList hu X.prog X.w _ _ fin
    · obtain ⟨t, rfl⟩ := rx
      exact SeqAt.RcNeAt.str_list z t p1.isList hu X.prog X.w _ _ fin
    · cases (show u = Value.ref b from rx)
      obtain ⟨vs, r2, t2, _⟩ := I.tuple hb
      exact SeqAt.RcNeAt.tuple_list t2 p1.isList hu X.prog X.w _ _ fin
def rEqL (K : PySem.W.Frag) : R2 := fun x y H Q => ((∃ a xs, x = .ref a ∧ SqL K H a xs ∧ NoL K H y) ∨ (∃ a xs, y = .ref a ∧ SqL K H a xs ∧ NoL K H x)) ∧ Q (.bl false) H
theorem op_eqL (hu : X.A.units < cLine) : OpR X (compareOp .Eq) (rEqL X.K) := by
  intro pins s σ H x y u v Q I rx ry h
  obtain ⟨h, q⟩ := h
  have fin : EP X pins σ Q (.bool false) s := ⟨.bl false, H, I, rfl, q⟩
  show wpAny (model X.prog X.w) X.A (richCompare .Eq u v) (EP X pins σ Q) X.xe s
  rcases h with ⟨a, xs, rfl, ha, h⟩ | ⟨a, xs, rfl, ha, h⟩
  · cases (show u = Value.ref a from rx)
    obtain ⟨us, r1, p1, _⟩ := I.list ha
    rcases h with rfl | ⟨i, rfl⟩ | ⟨z, rfl⟩ | ⟨b, ys, rfl, hb⟩
    · cases (show v = Value.none from ry)
      exact SeqAt.RcAt.list_none p1.isList hu X.prog X.w _ _ fin
    · obtain ⟨t, rfl⟩ := ry
      exact SeqAt.RcAt.list_int i t p1.isList hu X.prog X.w _ _ fin
    · obtain ⟨t, rfl⟩ := ry
      exact SeqAt.RcAt.list_str z t p1.isList hu X.prog X.w _ _ fin
    · cases (show v = Value.ref b from ry)
      obtain ⟨vs, r2, t2, _⟩ := I.tuple hb
      exact SeqAt.RcAt.list_tuple p1.isList t2 hu X.prog X.w _ _ fin
  · cases (show v = Value.ref a from ry)
    obtain ⟨us, r1, p1, _⟩ := I.list ha
    rcases h with rfl | ⟨i, rfl⟩ | ⟨z, rfl⟩ | ⟨b, ys, rfl, hb⟩
    · cases (show u = Value.none from rx)
      exact SeqAt.RcAt.none_list p1.isList hu X.prog X.w _ _ fin
    · obtain ⟨t, rfl⟩ := rx
      exact SeqAt.RcAt.int_list i t p1.isList hu X.prog X.w _ _ fin
    · obtain ⟨t, rfl⟩ := rx
      exact SeqAt.RcAt.str_list z t p1.isList hu X.prog X.w _ _ fin
    · cases (show u = Value.ref b from rx)
      obtain ⟨vs, r2, t2, _⟩ := I.tuple hb
      exact SeqAt.RcAt.tuple_list t2 p1.isList hu X.prog X.w _ _ fin
/-- v == u answers r -/
inductive EqA (K : PySem.W.Frag) (H : Hp) : V → V → Bool → Prop
  | dat {x y : V} {d e : PyData} : Dp K H x d → Dp K H y e → SeqAt.shaped d = true → SeqAt.shaped e = true → EqA K H x y (PyData.eqv d e)
  | lst {a b : Addr} {xs ys : List V} : SqL K H a xs → SqL K H b ys → xs.length = ys.length → (∀ (j : Nat) (x y : V), xs[j]? = some x → ys[j]? = some y → Smd K H 60 x y) → EqA K H (.ref a) (.ref b) true
  | pre {a b : Addr} {xs ys : List V} (m : Nat) : SqT K H a xs → SqT K H b ys → xs.length = ys.length → (∀ j, j < m → j < xs.length → ∃ z, xs[j]? = some z ∧ ys[j]? = some z ∧ SelfV z) → (m < xs.length → ∃ i k : Int, xs[m]? = some (.int i) ∧ ys[m]? = some (.int k) ∧ i ≠ k) → EqA K H (.ref a) (.ref b) (decide (xs.length ≤ m))
  | noL {a : Addr} {xs : List V} {y : V} : SqL K H a xs → NoL K H y → EqA K H (.ref a) y false
  | noR {a : Addr} {xs : List V} {x : V} : SqL K H a xs → NoL K H x → EqA K H x (.ref a) false
def rEqA (K : PySem.W.Frag) : R2 := fun x y H Q => ∃ r, EqA K H x y r ∧ Q (.bl r) H
theorem op_eqA (hr : Room 0 X.A) : OpR X (compareOp .Eq) (rEqA X.K) := by
  intro pins s σ H x y u v Q I rx ry h
  have hu : X.A.units + 64 < cLine := by have := hr.un; omega
  have hu0 : X.A.units < cLine := by omega
  obtain ⟨r, h, q⟩ := h
  cases h with
  | dat h1 h2 h3 h4 => exact op_eqD hu pins s σ H x y u v Q I rx ry ⟨_, _, h1, h2, h3, h4, q⟩
  | lst h1 h2 h3 h4 => exact op_eqS hu pins s σ H _ _ u v Q I rx ry ⟨_, _, _, _, rfl, rfl, h1, h2, h3, h4, q⟩
  | pre m h1 h2 h3 h4 h5 => exact op_eqPre hu0 pins s σ H _ _ u v Q I rx ry ⟨_, _, _, _, m, rfl, rfl, h1, h2, h3, h4, h5, q⟩
  | noL h1 h2 => exact op_eqL hu0 pins s σ H _ _ u v Q I rx ry ⟨.inl ⟨_, _, rfl, h1, h2⟩, q⟩
  | noR h1 h2 => exact op_eqL hu0 pins s σ H _ _ u v Q I rx ry ⟨.inr ⟨_, _, rfl, h1, h2⟩, q⟩
/-- what != is asked: r is what == answers -/
inductive NeA (K : PySem.W.Frag) (H : Hp) : V → V → Bool → Prop
  | dat {x y : V} {d e : PyData} : Dp K H x d → Dp K H y e → SeqAt.shaped d = true → SeqAt.shaped e = true → NeA K H x y (PyData.eqv d e)
  | lst {a b : Addr} {xs ys : List V} : SqL K H a xs → SqL K H b ys → xs.length = ys.length → (∀ (j : Nat) (x y : V), xs[j]? = some x → ys[j]? = some y → Smd K H 60 x y) → NeA K H (.ref a) (.ref b) true
  | noL {a : Addr} {xs : List V} {y : V} : SqL K H a xs → NoL K H y → NeA K H (.ref a) y false
  | noR {a : Addr} {xs : List V} {x : V} : SqL K H a xs → NoL K H x → NeA K H x (.ref a) false
theorem NeA.eqA {K : PySem.W.Frag} {H : Hp} {x y : V} {r : Bool} (h : NeA K H x y r) : EqA K H x y r := by
  cases h with
  | dat h1 h2 h3 h4 => exact .dat h1 h2 h3 h4
  | lst h1 h2 h3 h4 => exact .lst h1 h2 h3 h4
  | noL h1 h2 => exact .noL h1 h2
  | noR h1 h2 => exact .noR h1 h2
def rNeA (K : PySem.W.Frag) : R2 := fun x y H Q => ∃ r, NeA K H x y r ∧ Q (.bl (!r)) H
theorem op_neA (hr : Room 0 X.A) : OpR X (compareOp .NotEq) (rNeA X.K) := by
  intro pins s σ H x y u v Q I rx ry h
  have hu : X.A.units + 64 < cLine := by have := hr.un; omega
  have hu0 : X.A.units < cLine := by omega
  obtain ⟨r, h, q⟩ := h
  cases h with
  | dat h1 h2 h3 h4 => exact op_neD hu pins s σ H x y u v Q I rx ry ⟨_, _, h1, h2, h3, h4, q⟩
  | lst h1 h2 h3 h4 => exact op_neS hu pins s σ H _ _ u v Q I rx ry ⟨_, _, _, _, rfl, rfl, h1, h2, h3, h4, q⟩
  | noL h1 h2 => exact op_neL hu0 pins s σ H _ _ u v Q I rx ry ⟨.inl ⟨_, _, rfl, h1, h2⟩, q⟩
  | noR h1 h2 => exact op_neL hu0 pins s σ H _ _ u v Q I rx ry ⟨.inr ⟨_, _, rfl, h1, h2⟩, q⟩
end
end KZ
end

section
set_option Elab.async false
set_option linter.all false
set_option maxRecDepth 100000
set_option maxHeartbeats 4000000
/-! Kept, Letter, Asking: made, compared -/
namespace K27
open PySem PySem.Spec L2 KZ
abbrev sKI : Stmt := mem 11 0
abbrev sKE : Stmt := mem 11 1
abbrev sLI : Stmt := mem 20 0
abbrev sLE : Stmt := mem 20 1
abbrev sAI : Stmt := mem 22 0
abbrev sAE : Stmt := mem 22 1
abbrev kF : List Str := ["stamp", "put", "value"]
abbrev lF : List Str := ["number", "sender", "receiver", "word", "parts"]
abbrev aF : List Str := ["ask", "word", "key", "epoch", "stage", "attempt", "kept", "noted"]
/-- what the written part says of such a class -/
structure ClsF (K : PySem.W.Frag) (mg : Str → Option Value) (nm : Str) (C : Addr) (fs : List Str) : Prop where
  g : mg nm = some (.ref C)
  cl : Cls K C
  no : ∀ f ∈ fs, NoAttr K C f
  ty : ∀ (H : Hp) (a dx : Addr) (gs : List (Str × V)), H a = some (.ins C dx gs) → TyOf K H (.ref a) (.ref C)
  me : PySem.W.kitOne K (.ref C) (.ref C) = some true
  no7 : ∀ (T : String), T ∈ ["NoneType", "bool", "int", "str", "list", "tuple", "dict"] → PySem.W.kitOne K (.type T) (.ref C) = some false
  leaf : PySem.W.kitOne K (.ref C) (.type "list") = some false ∧ PySem.W.kitOne K (.ref C) (.type "tuple") = some false ∧ PySem.W.kitOne K (.ref C) (.type "dict") = some false
theorem ClsF.leafT {K : PySem.W.Frag} {mg : Str → Option Value} {nm : Str} {C : Addr} {fs : List Str} (A : ClsF K mg nm C fs) {H : Hp} {a dx : Addr} {gs : List (Str × V)} (h : H a = some (.ins C dx gs)) : LeafT K H (.ref a) :=
  ⟨_, .base (A.ty _ _ _ _ h), A.leaf.1, A.leaf.2.1, A.leaf.2.2⟩
theorem leaf_int {K : PySem.W.Frag} {H : Hp} (i : Int) : LeafT K H (.int i) := ⟨_, .base (.int i), kit_d (c := "list") (by decide) (.int 0), kit_d (c := "tuple") (by decide) (.int 0), kit_d (c := "dict") (by decide) (.int 0)⟩
/-- what the own == is asked: another one of the class, or what is none -/
def spEqC (K : PySem.W.Frag) (C : Addr) (fs : List Str) (R : Hp → List V → List V → Bool → Prop) : Sp := fun vs H Q _ => ∃ a y dx xs, vs = [.ref a, y] ∧ H a = some (.ins C dx (fs.zip xs)) ∧ xs.length = fs.length ∧
  ((∃ b dy ys r, y = .ref b ∧ H b = some (.ins C dy (fs.zip ys)) ∧ ys.length = fs.length ∧ R H xs ys r ∧ Q (.bl r) H) ∨ (∃ t, TyX K H y t ∧ PySem.W.kitOne K t (.ref C) = some false ∧ Q (.bl false) H))
def rKE (K : PySem.W.Frag) (H : Hp) (xs ys : List V) (r : Bool) : Prop := ∃ v1 v2 v3 u1 u2 u3 r1 r2 r3, xs = [v1, v2, v3] ∧ ys = [u1, u2, u3] ∧ EqA K H v1 u1 r1 ∧ EqA K H v2 u2 r2 ∧ EqA K H v3 u3 r3 ∧ r = (r1 && (r2 && r3))
def rLE (K : PySem.W.Frag) (H : Hp) (xs ys : List V) (r : Bool) : Prop := ∃ v1 v2 v3 v4 v5 u1 u2 u3 u4 u5 r1 r2 r3 r4 r5, xs = [v1, v2, v3, v4, v5] ∧ ys = [u1, u2, u3, u4, u5] ∧ NeA K H v1 u1 r1 ∧ NeA K H v2 u2 r2 ∧ NeA K H v3 u3 r3 ∧ EqA K H v4 u4 r4 ∧ EqA K H v5 u5 r5 ∧ r = (r1 && (r2 && (r3 && (r4 && r5))))
def rAE (K : PySem.W.Frag) (H : Hp) (xs ys : List V) (r : Bool) : Prop := ∃ v1 v2 v3 v4 v5 v6 v7 v8 u1 u2 u3 u4 u5 u6 u7 u8 r1 r2 r3 r4 r5 r6 r7 r8, xs = [v1, v2, v3, v4, v5, v6, v7, v8] ∧ ys = [u1, u2, u3, u4, u5, u6, u7, u8] ∧ NeA K H v1 u1 r1 ∧ NeA K H v2 u2 r2 ∧ NeA K H v3 u3 r3 ∧ NeA K H v4 u4 r4 ∧ NeA K H v5 u5 r5 ∧ NeA K H v6 u6 r6 ∧ EqA K H v7 u7 r7 ∧ EqA K H v8 u8 r8 ∧ r = (r1 && (r2 && (r3 && (r4 && (r5 && (r6 && (r7 && r8)))))))
section
variable {P : Program} {w : World} {K : PySem.W.Frag} {mg : Str → Option Value} {base : Heap} {C : Addr}
theorem scKE : FnScope ["self", "other"] ["self", "other"] (defScope sKE) := ⟨rfl, rfl, rfl, by decide +kernel, rfl, by decide +kernel, by decide +kernel⟩
theorem scLE : FnScope ["self", "other"] ["self", "other"] (defScope sLE) := ⟨rfl, rfl, rfl, by decide +kernel, rfl, by decide +kernel, by decide +kernel⟩
theorem scAE : FnScope ["self", "other"] ["self", "other"] (defScope sAE) := ⟨rfl, rfl, rfl, by decide +kernel, rfl, by decide +kernel, by decide +kernel⟩
theorem ok_ke {f : Addr} {fd : FuncData} {q : Str} (F : Fun K "__eq__" q sKE f fd) (A : ClsF K mg "Kept" C kF) (T : B0 mg) : FnOk P w K mg base CX0 1 f fd ["self", "other"] (spEqC K C kF (rKE K)) := by
  refine F.ok scKE (fun vs H Q E h => ?_) (fun cdv A' outer s H vs Q E hr h => ?_)
  · obtain ⟨a, y, dx, xs, rfl, _⟩ := h
    rfl
  · obtain ⟨a, y, dx, xs, rfl, ha, hl, h⟩ := h
    refine ⟨_, (pss_cons (ps_if (pt_not (pt_val (pe_callB (call_isiQ K) (by rfl) T.isi (by decide +kernel) (pa_cons (pv 1) (pa_cons (pe_glob (v := .ref C) (by rfl) A.g rfl) pa_nil)))))
(pss_one (ps_ret pe_bl))
pss_nil)
(pss_one (ps_ret (pe_and (pe_cmpR (op_eqA (hr.mono (Nat.zero_le _))) (pe_fld (pv 0) rfl) (pe_fld (pv 1) rfl) (nomark _)) (pe_and (pe_cmpR (op_eqA (hr.mono (Nat.zero_le _))) (pe_fld (pv 0) rfl) (pe_fld (pv 1) rfl) (nomark _)) (pe_one (pe_cmpR (op_eqA (hr.mono (Nat.zero_le _))) (pe_fld (pv 0) rfl) (pe_fld (pv 1) rfl) (nomark _)))))))), ?_⟩
    rcases h with ⟨b, dy, ys, r, rfl, hb, _, hR, q⟩ | ⟨t, ty, k, q⟩
    · obtain ⟨v1, v2, v3, u1, u2, u3, r1, r2, r3, rfl, rfl, e1, e2, e3, rfl⟩ := hR
      have no : ∀ f ∈ kF, NoAttr K C f := A.no
      refine ⟨_, rfl, .ref b, .ref C, _, _, true, rfl, .own C, .base (A.ty _ _ _ _ hb), A.me, _, rfl, ?_⟩
      refine iteF ⟨.ref a, rfl, a, C, dx, _, v1, rfl, ha, A.cl, no _ (by decide), rfl, .ref b, rfl, b, C, dy, _, u1, rfl, hb, A.cl, no _ (by decide), rfl, r1, e1, _, rfl, ?_⟩
      cases r1 with
      | false => exact iteF q
      | true =>
        refine iteT ⟨.ref a, rfl, a, C, dx, _, v2, rfl, ha, A.cl, no _ (by decide), rfl, .ref b, rfl, b, C, dy, _, u2, rfl, hb, A.cl, no _ (by decide), rfl, r2, e2, _, rfl, ?_⟩
        cases r2 with
        | false => exact iteF q
        | true => exact iteT ⟨.ref a, rfl, a, C, dx, _, v3, rfl, ha, A.cl, no _ (by decide), rfl, .ref b, rfl, b, C, dy, _, u3, rfl, hb, A.cl, no _ (by decide), rfl, r3, e3, q⟩
    · refine ⟨_, rfl, y, .ref C, _, _, false, rfl, .own C, ty, k, _, rfl, ?_⟩
      exact iteT q
theorem ok_le {f : Addr} {fd : FuncData} {q : Str} (F : Fun K "__eq__" q sLE f fd) (A : ClsF K mg "Letter" C lF) (T : B0 mg) : FnOk P w K mg base CX0 1 f fd ["self", "other"] (spEqC K C lF (rLE K)) := by
  refine F.ok scLE (fun vs H Q E h => ?_) (fun cdv A' outer s H vs Q E hr h => ?_)
  · obtain ⟨a, y, dx, xs, rfl, _⟩ := h
    rfl
  · obtain ⟨a, y, dx, xs, rfl, ha, hl, h⟩ := h
    refine ⟨_, (pss_cons (ps_if (pt_not (pt_val (pe_callB (call_isiQ K) (by rfl) T.isi (by decide +kernel) (pa_cons (pv 1) (pa_cons (pe_glob (v := .ref C) (by rfl) A.g rfl) pa_nil)))))
(pss_one (ps_ret pe_bl))
pss_nil)
(pss_cons (ps_if (PW.pt (pw_or (pt_cmpR (op_neA (hr.mono (Nat.zero_le _))) (pe_fld (pv 0) rfl) (pe_fld (pv 1) rfl) (nomark _)) (pw_or (pt_cmpR (op_neA (hr.mono (Nat.zero_le _))) (pe_fld (pv 0) rfl) (pe_fld (pv 1) rfl) (nomark _)) (pw_or1 (pt_cmpR (op_neA (hr.mono (Nat.zero_le _))) (pe_fld (pv 0) rfl) (pe_fld (pv 1) rfl) (nomark _))))))
(pss_one (ps_ret pe_bl))
pss_nil)
(pss_one (ps_ret (pe_and (pe_cmpR (op_eqA (hr.mono (Nat.zero_le _))) (pe_fld (pv 0) rfl) (pe_fld (pv 1) rfl) (nomark _)) (pe_one (pe_cmpR (op_eqA (hr.mono (Nat.zero_le _))) (pe_fld (pv 0) rfl) (pe_fld (pv 1) rfl) (nomark _)))))))), ?_⟩
    rcases h with ⟨b, dy, ys, r, rfl, hb, _, hR, q⟩ | ⟨t, ty, k, q⟩
    · obtain ⟨v1, v2, v3, v4, v5, u1, u2, u3, u4, u5, r1, r2, r3, r4, r5, rfl, rfl, e1, e2, e3, e4, e5, rfl⟩ := hR
      have no : ∀ f ∈ lF, NoAttr K C f := A.no
      refine ⟨_, rfl, .ref b, .ref C, _, _, true, rfl, .own C, .base (A.ty _ _ _ _ hb), A.me, _, rfl, ?_⟩
      refine iteF ?_
      refine ⟨.ref a, rfl, a, C, dx, _, v1, rfl, ha, A.cl, no _ (by decide), rfl, .ref b, rfl, b, C, dy, _, u1, rfl, hb, A.cl, no _ (by decide), rfl, r1, e1, _, rfl, ?_⟩
      cases r1 with
      | false => exact iteT (iteT q)
      | true =>
        refine iteF ?_
        refine ⟨.ref a, rfl, a, C, dx, _, v2, rfl, ha, A.cl, no _ (by decide), rfl, .ref b, rfl, b, C, dy, _, u2, rfl, hb, A.cl, no _ (by decide), rfl, r2, e2, _, rfl, ?_⟩
        cases r2 with
        | false => exact iteT (iteT q)
        | true =>
          refine iteF ?_
          refine ⟨.ref a, rfl, a, C, dx, _, v3, rfl, ha, A.cl, no _ (by decide), rfl, .ref b, rfl, b, C, dy, _, u3, rfl, hb, A.cl, no _ (by decide), rfl, r3, e3, _, rfl, ?_⟩
          cases r3 with
          | false => exact iteT q
          | true =>
            refine iteF ?_
            refine ⟨.ref a, rfl, a, C, dx, _, v4, rfl, ha, A.cl, no _ (by decide), rfl, .ref b, rfl, b, C, dy, _, u4, rfl, hb, A.cl, no _ (by decide), rfl, r4, e4, _, rfl, ?_⟩
            cases r4 with
            | false => exact iteF q
            | true => exact iteT ⟨.ref a, rfl, a, C, dx, _, v5, rfl, ha, A.cl, no _ (by decide), rfl, .ref b, rfl, b, C, dy, _, u5, rfl, hb, A.cl, no _ (by decide), rfl, r5, e5, q⟩
    · refine ⟨_, rfl, y, .ref C, _, _, false, rfl, .own C, ty, k, _, rfl, ?_⟩
      exact iteT q
theorem ok_ae {f : Addr} {fd : FuncData} {q : Str} (F : Fun K "__eq__" q sAE f fd) (A : ClsF K mg "Asking" C aF) (T : B0 mg) : FnOk P w K mg base CX0 1 f fd ["self", "other"] (spEqC K C aF (rAE K)) := by
  refine F.ok scAE (fun vs H Q E h => ?_) (fun cdv A' outer s H vs Q E hr h => ?_)
  · obtain ⟨a, y, dx, xs, rfl, _⟩ := h
    rfl
  · obtain ⟨a, y, dx, xs, rfl, ha, hl, h⟩ := h
    refine ⟨_, (pss_cons (ps_if (pt_not (pt_val (pe_callB (call_isiQ K) (by rfl) T.isi (by decide +kernel) (pa_cons (pv 1) (pa_cons (pe_glob (v := .ref C) (by rfl) A.g rfl) pa_nil)))))
(pss_one (ps_ret pe_bl))
pss_nil)
(pss_cons (ps_if (PW.pt (pw_or (pt_cmpR (op_neA (hr.mono (Nat.zero_le _))) (pe_fld (pv 0) rfl) (pe_fld (pv 1) rfl) (nomark _)) (pw_or (pt_cmpR (op_neA (hr.mono (Nat.zero_le _))) (pe_fld (pv 0) rfl) (pe_fld (pv 1) rfl) (nomark _)) (pw_or1 (pt_cmpR (op_neA (hr.mono (Nat.zero_le _))) (pe_fld (pv 0) rfl) (pe_fld (pv 1) rfl) (nomark _))))))
(pss_one (ps_ret pe_bl))
pss_nil)
(pss_cons (ps_if (PW.pt (pw_or (pt_cmpR (op_neA (hr.mono (Nat.zero_le _))) (pe_fld (pv 0) rfl) (pe_fld (pv 1) rfl) (nomark _)) (pw_or (pt_cmpR (op_neA (hr.mono (Nat.zero_le _))) (pe_fld (pv 0) rfl) (pe_fld (pv 1) rfl) (nomark _)) (pw_or1 (pt_cmpR (op_neA (hr.mono (Nat.zero_le _))) (pe_fld (pv 0) rfl) (pe_fld (pv 1) rfl) (nomark _))))))
(pss_one (ps_ret pe_bl))
pss_nil)
(pss_one (ps_ret (pe_and (pe_cmpR (op_eqA (hr.mono (Nat.zero_le _))) (pe_fld (pv 0) rfl) (pe_fld (pv 1) rfl) (nomark _)) (pe_one (pe_cmpR (op_eqA (hr.mono (Nat.zero_le _))) (pe_fld (pv 0) rfl) (pe_fld (pv 1) rfl) (nomark _))))))))), ?_⟩
    rcases h with ⟨b, dy, ys, r, rfl, hb, _, hR, q⟩ | ⟨t, ty, k, q⟩
    · obtain ⟨v1, v2, v3, v4, v5, v6, v7, v8, u1, u2, u3, u4, u5, u6, u7, u8, r1, r2, r3, r4, r5, r6, r7, r8, rfl, rfl, e1, e2, e3, e4, e5, e6, e7, e8, rfl⟩ := hR
      have no : ∀ f ∈ aF, NoAttr K C f := A.no
      refine ⟨_, rfl, .ref b, .ref C, _, _, true, rfl, .own C, .base (A.ty _ _ _ _ hb), A.me, _, rfl, ?_⟩
      refine iteF ?_
      refine ⟨.ref a, rfl, a, C, dx, _, v1, rfl, ha, A.cl, no _ (by decide), rfl, .ref b, rfl, b, C, dy, _, u1, rfl, hb, A.cl, no _ (by decide), rfl, r1, e1, _, rfl, ?_⟩
      cases r1 with
      | false => exact iteT (iteT q)
      | true =>
        refine iteF ?_
        refine ⟨.ref a, rfl, a, C, dx, _, v2, rfl, ha, A.cl, no _ (by decide), rfl, .ref b, rfl, b, C, dy, _, u2, rfl, hb, A.cl, no _ (by decide), rfl, r2, e2, _, rfl, ?_⟩
        cases r2 with
        | false => exact iteT (iteT q)
        | true =>
          refine iteF ?_
          refine ⟨.ref a, rfl, a, C, dx, _, v3, rfl, ha, A.cl, no _ (by decide), rfl, .ref b, rfl, b, C, dy, _, u3, rfl, hb, A.cl, no _ (by decide), rfl, r3, e3, _, rfl, ?_⟩
          cases r3 with
          | false => exact iteT q
          | true =>
            refine iteF ?_
            refine ⟨.ref a, rfl, a, C, dx, _, v4, rfl, ha, A.cl, no _ (by decide), rfl, .ref b, rfl, b, C, dy, _, u4, rfl, hb, A.cl, no _ (by decide), rfl, r4, e4, _, rfl, ?_⟩
            cases r4 with
            | false => exact iteT (iteT q)
            | true =>
              refine iteF ?_
              refine ⟨.ref a, rfl, a, C, dx, _, v5, rfl, ha, A.cl, no _ (by decide), rfl, .ref b, rfl, b, C, dy, _, u5, rfl, hb, A.cl, no _ (by decide), rfl, r5, e5, _, rfl, ?_⟩
              cases r5 with
              | false => exact iteT (iteT q)
              | true =>
                refine iteF ?_
                refine ⟨.ref a, rfl, a, C, dx, _, v6, rfl, ha, A.cl, no _ (by decide), rfl, .ref b, rfl, b, C, dy, _, u6, rfl, hb, A.cl, no _ (by decide), rfl, r6, e6, _, rfl, ?_⟩
                cases r6 with
                | false => exact iteT q
                | true =>
                  refine iteF ?_
                  refine ⟨.ref a, rfl, a, C, dx, _, v7, rfl, ha, A.cl, no _ (by decide), rfl, .ref b, rfl, b, C, dy, _, u7, rfl, hb, A.cl, no _ (by decide), rfl, r7, e7, _, rfl, ?_⟩
                  cases r7 with
                  | false => exact iteF q
                  | true => exact iteT ⟨.ref a, rfl, a, C, dx, _, v8, rfl, ha, A.cl, no _ (by decide), rfl, .ref b, rfl, b, C, dy, _, u8, rfl, hb, A.cl, no _ (by decide), rfl, r8, e8, q⟩
    · refine ⟨_, rfl, y, .ref C, _, _, false, rfl, .own C, ty, k, _, rfl, ?_⟩
      exact iteT q
end
end K27
end

section
set_option Elab.async false
set_option linter.all false
set_option maxRecDepth 100000
set_option maxHeartbeats 4000000
/-! t.index(y), t a tuple of flat items -/
namespace KZ
open PySem PySem.Spec PyProof.Rows L2
section
variable {X : Cx}
def rTIx (K : PySem.W.Frag) : V → List V → Hp → VK → Prop := fun x xs H Q => ∃ (a : Addr) (ys : List V) (y : V) (j : Nat) (z : V), x = V.ref a ∧ xs = [y] ∧ SqT K H a ys ∧ flatV y = true ∧ ys.all flatV = true ∧ ys[j]? = some z ∧ eqV z y = true ∧ (∀ (m : Nat) (z' : V), m < j → ys[m]? = some z' → eqV z' y = false) ∧ Q (.int (j : Nat)) H
theorem mt_tix : MtR X "tuple.index" (rTIx X.K) := by
  intro pins s σ H x xs v us Q I rx rxs h
  obtain ⟨a, ys, y, j, z, ex, exs, tup, fy, fys, at_, same, first, q⟩ := h
  subst ex exs
  cases rx
  obtain ⟨u, eu, ry⟩ := vals1 rxs
  subst eu
  obtain ⟨its, rv, pl, hz⟩ := I.tuple tup
  obtain ⟨⟨cls, dd, dt, sl⟩, ho, hc, n, hd⟩ := pl
  simp only at hc hd
  subst hc hd
  obtain ⟨w, hw, rw_⟩ := rv.get at_
  obtain ⟨jl, je⟩ := List.getElem?_eq_some_iff.mp hw
  have hj : j < its.toArray.size := by simpa using jl
  refine call_meets PySem.F.slot_tuple_index ⟨_, ho, rfl⟩ PySem.F.entry_tuple_index (PySem.F.args_tuple_index_2 _ _)
    (TI.tuple_indexAt a its.toArray n dd sl u (eqU y) j hj ?_ ?_)
    ⟨ho, fun w' hw' => mem_eqAt ry fy rv fys w' (by simpa using hw'), ⟨.int (j : Nat), H, I.tok _, ⟨_, rfl⟩, q⟩⟩
  · have e1 : its.toArray[j] = w := by simpa using je
    rw [e1, eqU_of rw_ (flat_at fys at_)]
    exact same
  · intro m hm mj
    have ml : m < its.length := by simpa using hm
    have my : m < ys.length := by rw [← rv.length] at ml; exact ml
    obtain ⟨w2, hw2, r2⟩ := rv.get (List.getElem?_eq_getElem my)
    have e2 : its.toArray[m] = w2 := by simpa using (List.getElem?_eq_some_iff.mp hw2).2
    rw [e2, eqU_of r2 (flat_at fys (List.getElem?_eq_getElem my))]
    exact first m _ mj (List.getElem?_eq_getElem my)
end
end KZ
end

section
set_option Elab.async false
set_option linter.all false
set_option maxRecDepth 100000
set_option maxHeartbeats 4000000
/-! a tuple of which it is known that it has no dict: its methods -/
namespace KZ
open PySem PySem.Spec PyProof.Rows L2
def TupD (H : Hp) (p : Addr) (xs : List V) : Prop := ∃ ob : Obj, ob.dict = none ∧ H p = some (.frz ob (.tup xs))
theorem TupD.sq {K : PySem.W.Frag} {H : Hp} {p : Addr} {xs : List V} (h : TupD H p xs) : SqT K H p xs := by
  obtain ⟨ob, _, e⟩ := h
  exact .inl (.inr ⟨ob, e⟩)
theorem TupD.mono {H H' : Hp} {p : Addr} {xs : List V} (h : TupD H p xs) (k : ∀ ob, H p = some (.frz ob (.tup xs)) → H' p = some (.frz ob (.tup xs))) : TupD H' p xs := by
  obtain ⟨ob, d, e⟩ := h
  exact ⟨ob, d, k _ e⟩
section
variable {X : Cx}
def tTupD (t : TA) : TE := fun σ H Q => t σ H fun xs H1 => xs.length ≤ sizeLine ∧ ∀ p (ob : Obj), H1 p = none → ob.dict = none → Q (.ref p) (upd H1 p (.frz ob (.tup xs)))
theorem pe_tupD {es : List Expr} {x1 : Nat} {pos : Pos} {t : TA} (h : PA X es t) : PE X (.Tuple es x1 pos) (tTupD t) := by
  refine ⟨fun pins s σ H Q I hq => ?_⟩
  refine wpAny_Tuple_spliced (thn (h.run pos pins s σ H _ I hq) fun us s1 ⟨xs, H1, I1, r, z, q⟩ => ⟨by rw [← r.length]; exact z, ?_⟩)
  have hf : H1 s1.heap.objs.size = none := I1.hok.fresh (Nat.le_refl _)
  refine ⟨.ref s1.heap.objs.size, upd H1 s1.heap.objs.size (.frz { cls := .type "tuple", data := .seq us.toArray } (.tup xs)), I1.laid (t' := s1.toks) (fun b u e => Heap.get?_push_of_some _ e) (Nat.le_refl _) ?_, rfl, q _ _ hf rfl⟩
  exact ⟨Heap.get?_push_size _ rfl, z, us, r, ⟨_, Heap.get?_push_size _ rfl, rfl, _, rfl⟩⟩
def rCatD (K : PySem.W.Frag) : R2 := fun x y H Q => ∃ a b xs ys, x = .ref a ∧ y = .ref b ∧ SqT K H a xs ∧ SqT K H b ys ∧ xs.length + ys.length ≤ sizeLine ∧
  (xs = [] → Q (.ref b) H) ∧ (xs ≠ [] → ys = [] → Q (.ref a) H) ∧ (xs ≠ [] → ys ≠ [] → ∀ p (ob : Obj), H p = none → ob.dict = none → Q (.ref p) (upd H p (.frz ob (.tup (xs ++ ys)))))
theorem op_catD : OpR X (binaryOp .Add) (rCatD X.K) := by
  intro pins s σ H x y v u Q I rx ry h
  obtain ⟨a, b, xs, ys, rfl, rfl, ha, hb, hz, q0, q1, q2⟩ := h
  cases rx
  cases ry
  obtain ⟨its, r1, p1, _⟩ := I.tuple ha
  obtain ⟨its2, r2, p2, _⟩ := I.tuple hb
  by_cases hx : xs = []
  · subst hx
    cases r1
    exact cat_tup0 p1 p2 ⟨.ref b, H, I, rfl, q0 rfl⟩
  · refine HT.cat_tup p1 p2 (fun z => hx (r1.nil_iff.mp z)) (fun z => ⟨.ref a, H, I, rfl, q1 hx (r2.nil_iff.mp z)⟩) (fun z => ?_) (by rw [← r1.length, ← r2.length]; exact hz)
    refine ⟨.ref s.heap.objs.size, _, I.laid (t' := s.toks) (o := .frz { cls := .type "tuple", data := .seq (its ++ its2).toArray } (.tup (xs ++ ys))) (fun b ob q => Heap.get?_push_of_some _ q) (Nat.le_refl _) ?_, rfl, q2 hx (fun w => z (r2.nil_iff.mpr w)) _ _ (I.hok.fresh (Nat.le_refl _)) rfl⟩
    exact ⟨Heap.get?_push_size _ rfl, by rw [List.length_append]; exact hz, _, r1.append r2, IsTup.new _ _⟩
theorem TupD.is {pins : List (Addr × Obj)} {σ : L2.St} {H : Hp} {s : Shared} {p : Addr} {xs : List V} (I : Inv X pins σ H s) (h : TupD H p xs) : s.TypeIs (.ref p) "tuple" ∧ ∀ a, Value.ref p = .ref a → ∃ ob, s.heap.get? a = some ob ∧ ob.dict = none := by
  obtain ⟨ob, hd, e⟩ := h
  obtain ⟨e1, _, its, r, t⟩ := I.hok p _ e
  exact ⟨t.typeIs, fun a z => by cases z; exact ⟨ob, e1, hd⟩⟩
def tBMD (r : V → List V → Hp → VK → Prop) (to : TE) (t : TA) : TE := fun σ H Q => to σ H fun x H1 => (∃ p xs, x = .ref p ∧ TupD H1 p xs) ∧ t σ H1 fun xs H2 => r x xs H2 Q
variable {o e : Expr} {es : List Expr} {to : TE} {t : TA} {name : Str} {apos cpos : Pos} {id : String} {r : V → List V → Hp → VK → Prop}
theorem pe_bmD (pa : PlainAttrs "tuple") (slot : Slot "tuple" name id) (hty : typeOf (.builtin id) = pure (.type "method_descriptor")) (hm : MtR X id r) (ho : PE X o to) (ha : PA X (e :: es) t)
    (hbase : attributeBase o name X.env (eval o X.env) = eval o X.env := by rfl)
    (hfew : ((backTo cpos (starEach (e :: es) X.env)).all (fun x => !x.1) && (backToKw cpos (keywordEach [] X.env)).all (fun x => x.1.isSome)
      && decide ((e :: es).length + ([] : List Keyword).length + (if ([] : List Keyword).isEmpty then 0 else 1) < 30)) = true := by rfl)
    (hline : (apos.endLine == cpos.line) = true := by rfl) (hs : starEach (e :: es) X.env = (false, eval e X.env) :: starEach es X.env := by rfl) (hplain : (backTo cpos (starEach es X.env)).any (·.1) = false := by rfl) :
    PE X (.Call (.Attribute o name apos) (e :: es) [] cpos) (tBMD r to t) := by
  refine ⟨fun pins s σ H Q I h => ?_⟩
  refine wpAny_Call_method_late hbase hfew hline rfl (thn (ho.run pins s σ H _ I h) fun v s1 ⟨x, H1, I1, r1, ⟨p, xs0, ex, ty⟩, q1⟩ => ?_)
  subst ex
  cases r1
  obtain ⟨h1, h2⟩ := ty.is I1
  refine ⟨"tuple", id, pa, slot, hty, h1, h2, ?_⟩
  have hA := ha.run cpos pins s1 σ H1 _ I1 q1
  rw [hs] at hA ⊢
  refine Calls.callWith_builtin (by show (false || (backTo cpos (starEach es X.env)).any (·.1)) = false; rw [hplain] <;> rfl) (Calls.evalArgs_plain ?_)
  exact thn hA fun us s2 ⟨vs, H2, I2, r2, q2⟩ => hm pins s2 σ H2 (.ref p) vs (.ref p) us Q I2 rfl r2 q2
end
end KZ
end

section
set_option Elab.async false
set_option linter.all false
set_option maxRecDepth 100000
set_option maxHeartbeats 4000000
/-! rules with the fragment named: methods of lists, slices and sums of tuples -/
namespace KZ
open PySem PySem.Spec PyProof.Rows L2
section
variable {X : Cx} {o e : Expr} {es : List Expr} {to : TE} {t : TA} {name : Str} {apos cpos : Pos} {T id : String} {r : V → List V → Hp → VK → Prop}
theorem mt_indexK (K : PySem.W.Frag) (h : X.K = K := by rfl) : MtR X "list.index" (rIndex K) := by subst h; exact mt_index
theorem mt_tixK (K : PySem.W.Frag) (h : X.K = K := by rfl) : MtR X "tuple.index" (rTIx K) := by subst h; exact mt_tix
theorem sl_tupK (K : PySem.W.Frag) (h : X.K = K := by rfl) : SlR X (rSlT K) := by subst h; exact sl_tup
theorem op_catAK (K : PySem.W.Frag) (h : X.K = K := by rfl) : OpR X (binaryOp .Add) (rCatA K) := by subst h; exact op_catA
theorem pe_bmK (K : PySem.W.Frag) (pa : PlainAttrs T) (slot : Slot T name id) (hty : typeOf (.builtin id) = pure (.type "method_descriptor")) (hm : MtR X id r) (ho : PE X o to) (ha : PA X (e :: es) t) (hK : X.K = K := by rfl)
    (hbase : attributeBase o name X.env (eval o X.env) = eval o X.env := by rfl)
    (hfew : ((backTo cpos (starEach (e :: es) X.env)).all (fun x => !x.1) && (backToKw cpos (keywordEach [] X.env)).all (fun x => x.1.isSome)
      && decide ((e :: es).length + ([] : List Keyword).length + (if ([] : List Keyword).isEmpty then 0 else 1) < 30)) = true := by rfl)
    (hline : (apos.endLine == cpos.line) = true := by rfl) (hs : starEach (e :: es) X.env = (false, eval e X.env) :: starEach es X.env := by rfl) (hplain : (backTo cpos (starEach es X.env)).any (·.1) = false := by rfl) :
    PE X (.Call (.Attribute o name apos) (e :: es) [] cpos) (tBM K T r to t) := by
  subst hK
  exact pe_bm pa slot hty hm ho ha hbase hfew hline hs hplain
end
end KZ
end

section
set_option Elab.async false
set_option linter.all false
set_option maxRecDepth 100000
set_option maxHeartbeats 4000000
/-! t[::-1], t a tuple; slices and sums of tuples of any kind, the fragment named -/
namespace KZ
open PySem PySem.Spec PyProof.Rows L2 HT
section
variable {prog : Program} {w : World} {A : Around} {E : Value → Shared → Prop} {s : Shared}
theorem adjust_rev (n : Nat) : Builtin.Slice.sliceAdjust none none (-1) (n : Int) = ((n : Int) - 1, -1) := by
  unfold Builtin.Slice.sliceAdjust
  rfl
theorem places_rev (n : Nat) : Builtin.Slice.slicePlaces ((n : Int) - 1) (-1) (-1) = n := by
  unfold Builtin.Slice.slicePlaces
  rw [if_neg (by decide)]
  by_cases h : (n : Int) - 1 > -1
  · rw [if_pos h]
    have : ((n : Int) - 1 - -1 - 1) / (- -1) + 1 = n := by
      rw [show (- -1 : Int) = 1 from rfl, Int.ediv_one]
      omega
    rw [this]
    rfl
  · rw [if_neg h]
    show 0 = n
    omega
theorem pick_rev (xs : Array Value) : ((List.range xs.size).filterMap fun (m : Nat) => xs[(((xs.size : Nat) : Int) - 1 + (m : Int) * (-1)).toNat]?).toArray = xs.toList.reverse.toArray := by
  congr 1
  have e : ∀ k, k ≤ xs.size → ((List.range k).filterMap fun (m : Nat) => xs[(((xs.size : Nat) : Int) - 1 + (m : Int) * (-1)).toNat]?) = xs.toList.reverse.take k := by
    intro k
    induction k with
    | zero => intro _; rfl
    | succ k ih =>
      intro hk
      rw [List.range_succ, List.filterMap_append, ih (by omega), List.take_add_one]
      congr 1
      have i1 : (((xs.size : Nat) : Int) - 1 + (k : Int) * (-1)).toNat = xs.size - 1 - k := by omega
      have l1 : k < xs.toList.length := by rw [Array.length_toList]; omega
      rw [List.getElem?_reverse l1, Array.length_toList]
      show ([k].filterMap _) = _
      rw [List.filterMap_cons, i1, Array.getElem?_toList]
      cases xs[xs.size - 1 - k]? <;> rfl
  rw [e xs.size (Nat.le_refl _), List.take_of_length_le (by rw [List.length_reverse, Array.length_toList]; exact Nat.le_refl _)]
theorem sliceApplied_rev {sl : Addr} {n : Nat} {t : Tok} {Q : Int × Int × Nat → Shared → Prop} (hs : s.heap.IsSliceOf sl .none .none (.int (-1) t))
    (h : Q ((n : Int) - 1, -1, n) s) : wpAny (model prog w) A (Builtin.Slice.sliceApplied (.ref sl) (pure (n : Int))) Q E s := by
  obtain ⟨os, hos, hcs, hds⟩ := id hs
  unfold Builtin.Slice.sliceApplied Builtin.Slice.sliceFields
  refine wpAny_bind (wpAny_bind (wpAny_field hos hds (x := .none) rfl (wpAny_bind (wpAny_field hos hds (x := .none) rfl (wpAny_bind (wpAny_field hos hds (x := .int (-1) t) rfl (wpAny_pure ?_)))))))
  refine wpAny_bind (slicePart_int ?_)
  show wpAny _ _ (if ((-1 : Int) == 0) = true then _ else _) _ _ s
  rw [if_neg (by decide)]
  refine wpAny_bind (slicePart_none (wpAny_bind (slicePart_none (wpAny_bind (wpAny_pure ?_)))))
  show wpAny _ _ (match Builtin.Slice.sliceAdjust none none (-1) (n : Int) with | (lo, hi) => pure (lo, (-1 : Int), Builtin.Slice.slicePlaces lo hi (-1))) _ _ s
  rw [adjust_rev n]
  show wpAny _ _ (pure ((n : Int) - 1, (-1 : Int), Builtin.Slice.slicePlaces ((n : Int) - 1) (-1) (-1))) _ _ s
  rw [places_rev]
  exact wpAny_pure h
theorem getItem_tuple_rev {a sl : Addr} {t : Tok} {items : Array Value} {Q : Value → Shared → Prop} (ht : IsTup s.heap a items) (hs : s.heap.IsSliceOf sl .none .none (.int (-1) t))
    (h : Q (.ref s.heap.objs.size) { s with heap := s.heap.push { cls := .type "tuple", data := .seq items.toList.reverse.toArray } })
    (hsz : items.size ≤ sizeLine) : wpAny (model prog w) A (getItem (.ref a) (.ref sl)) Q E s := by
  have htake : sizeOk (.seq items.toList.reverse.toArray) := by
    show items.toList.reverse.toArray.size ≤ sizeLine
    rw [List.size_toArray, List.length_reverse, Array.length_toList]
    exact hsz
  obtain ⟨os, hos, hcs, hds⟩ := id hs
  have hTs : s.TypeIs (.ref sl) "slice" := ⟨os, hos, hcs⟩
  unfold getItem
  try with_reducible refine wpAny_holding ?_
  first | refine wpAny_bind (wpAny_pure ?_) | skip
  refine wpAny_bind (wpAny_sequenceKey ht.typeIs (by decide) ?_)
  refine wpAny_bind (wpAny_callSpecial?_slot (name := Str.ofString "__getitem__") ht.typeIs PyProof.Rows.slot_tuple_getitem
    (wpAny_call_entry PyProof.Rows.slot_tuple_getitem ht.typeIs entry_tuple_getitem ?_ (args_tuple_getitem _ _)))
  show wpAny _ _ (Builtin.Tuple.tupleItemsOf (.ref a) >>= _) _ _ s
  refine wpAny_bind (tupleItemsOf_ ht ?_)
  refine wpAny_bind (wpAny_typeOf hTs ?_)
  rw [if_pos (by decide)]
  refine wpAny_bind (sliceApplied_rev hs ?_)
  have hno : ¬ ((((items.size : Nat) : Int) - 1 == 0 && (-1 : Int) == 1 && items.size == items.size) = true) := by
    rw [show ((-1 : Int) == 1) = false from rfl, Bool.and_false, Bool.false_and]
    exact fun z => nomatch z
  show wpAny _ _ (if (((items.size : Nat) : Int) - 1 == 0 && (-1 : Int) == 1 && items.size == items.size) = true then _ else _) _ _ s
  rw [if_neg hno, pick_rev]
  first
    | exact wpAny_bind (m := Builtin.Tuple.tupleExact _) (wpAny_newObj_type (wpAny_pure ⟨_, rfl, wpAny_pure h⟩) htake)
    | exact wpAny_bind (m := Builtin.Tuple.tupleExact _) (wpAny_newObj_type (wpAny_bind (wpAny_pure (wpAny_pure ⟨_, rfl, wpAny_pure h⟩))) htake)
    | exact wpAny_bind (wpAny_bind (m := Builtin.Tuple.tupleExact _) (wpAny_newObj_type (wpAny_pure (wpAny_pure ⟨_, rfl, wpAny_pure h⟩)) htake))
    | exact wpAny_bind (wpAny_bind (m := Builtin.Tuple.tupleExact _) (wpAny_newObj_type (wpAny_pure ⟨_, rfl, wpAny_pure h⟩) htake))
end
section
variable {X : Cx} {e st : Expr} {te ts : TE} {pos p2 : Pos}
/-- t[::-1] -/
def tRev (K : PySem.W.Frag) (te ts : TE) : TE := fun σ H Q => te σ H fun x H1 => ts σ H1 fun y H2 => y = .int (-1) ∧ ∃ a xs, x = .ref a ∧ SqT K H2 a xs ∧ ∀ p, H2 p = none → Q (.ref p) (upd H2 p (.tup xs.reverse))
theorem pe_rev (he : PE X e te) (hs : PE X st ts) : PE X (.Subscript e (.Slice none none (some st) p2) pos) (tRev X.K te ts) := by
  refine ⟨fun pins s σ H Q I h => ?_⟩
  refine Subscript_ (thn (he.run pins s σ H _ I h) fun v s1 ⟨x, H1, I1, r1, q1⟩ => ?_)
  refine wpAny_Slice ?_
  rw [evalPart_none]
  refine wpAny_pure ?_
  refine wpAny_pure ?_
  rw [evalPart_some]
  refine thn (hs.run pins s1 σ H1 _ I1 q1) fun vl s2 ⟨y, H2, I2, r2, ey, a, xs, ex, hx, q2⟩ => ?_
  subst ey ex
  obtain ⟨t, rfl⟩ := r2
  cases r1
  have I3 : Inv X pins σ H2 { s2 with heap := s2.heap.push { cls := .type "slice", data := .fields #[.none, .none, .int (-1) t] } } := I2.kept (t' := s2.toks) fun b ob q => Heap.get?_push_of_some _ q
  obtain ⟨its, r, ht, hz⟩ := I3.tuple hx
  show wpAny (model X.prog X.w) X.A (subscriptTail e (.Slice none none (some st) p2) (.ref a) (.ref s2.heap.objs.size)) (EP X pins σ Q) X.xe { s2 with heap := s2.heap.push { cls := .type "slice", data := .fields #[.none, .none, .int (-1) t] } }
  refine tail_any (ops := [.ref a, .ref s2.heap.objs.size]) ht.typeIs PyProof.Rows.slot_tuple_getitem.lookup (getItem_tuple_rev ht (Heap.IsSliceOf.new ..) ?_ ?_) (by with_unfolding_all rfl)
  · refine ⟨.ref _, _, I3.laid (t' := s2.toks) (o := .tup xs.reverse) (fun b ob q => Heap.get?_push_of_some _ q) (Nat.le_refl _) ?_, rfl, q2 _ (I3.hok.fresh (Nat.le_refl _))⟩
    exact ⟨by rw [List.length_reverse]; exact hz, _, r.reverse, IsTup.new _ _⟩
  · rw [List.size_toArray, ← r.length]
    exact hz
theorem pe_revK (K : PySem.W.Frag) (he : PE X e te) (hs : PE X st ts) (h : X.K = K := by rfl) : PE X (.Subscript e (.Slice none none (some st) p2) pos) (tRev K te ts) := by
  subst h
  exact pe_rev he hs
theorem sl_tupAK (K : PySem.W.Frag) (h : X.K = K := by rfl) : SlR X (rSlA K) := by subst h; exact sl_tupA
end
end KZ
end

section
set_option Elab.async false
set_option linter.all false
set_option maxRecDepth 100000
set_option maxHeartbeats 4000000
/-! what stands in a heap without frozen dicts -/
namespace K27
open PySem PySem.Spec L2 KZ
/-- the heap without frozen dicts -/
def offD (H : Hp) : Hp := fun b => match H b with
  | some (.frz _ (.dK _)) => none
  | o => o
theorem offD_same (H : Hp) : Same (offD H) H := fun b o e => by
  unfold offD at e
  split at e
  · cases e
  · exact e
theorem offD_nof (H : Hp) : NoFrz (offD H) := fun b o kvs e => by
  have e2 := offD_same H _ _ e
  unfold offD at e
  rw [e2] at e
  cases e
theorem offD_of {G H : Hp} (s : Same G H) (n : NoFrz G) : Same G (offD H) := fun b o e => by
  unfold offD
  rw [s _ _ e]
  split
  · rename_i h
    cases h
    exact absurd e (n _ _ _)
  · rfl
theorem sqT_off {K : PySem.W.Frag} {H : Hp} {a : Addr} {xs : List V} (h : SqT K H a xs) : SqT K (offD H) a xs := by
  rcases h with (h | ⟨o, h⟩) | h
  · exact .inl (.inl (by unfold offD; rw [h]))
  · exact .inl (.inr ⟨o, by unfold offD; rw [h]⟩)
  · exact .inr h
/-- plain values that hold no others -/
def okV : V → Bool
  | .non => true
  | .bl _ => true
  | .int _ => true
  | .str x => PyData.canLay0 (.str x)
  | _ => false
def scX : V → PyData
  | .bl b => .bool b
  | .int i => .int i
  | .str x => .str x
  | _ => .none
theorem okV_dv {K : PySem.W.Frag} {H : Hp} {x : V} (h : okV x = true) : Dv K H x (scX x) := by
  cases x <;> first | exact .non | exact .bl _ | exact .int _ | exact .str _ | cases h
theorem okV_dvs {K : PySem.W.Frag} {H : Hp} : ∀ {xs : List V}, (∀ x ∈ xs, okV x = true) → Dvs K H xs (xs.map scX)
  | [], _ => .nil
  | x :: xs, h => .cons (okV_dv (h x List.mem_cons_self)) (okV_dvs fun y m => h y (List.mem_cons_of_mem _ m))
theorem strOk_of (x : String) : PyData.strOk (Str.ofString x) = true := by
  unfold PyData.strOk
  rw [Str.ofString_eq_toList, Array.all_eq_true_iff_forall_mem]
  intro n m
  rw [List.mem_toArray] at m
  obtain ⟨c, _, rfl⟩ := List.mem_map.mp m
  have : c.val.toNat < 0xd800 ∨ (0xdfff < c.val.toNat ∧ c.val.toNat < 0x110000) := c.valid
  have h : c.toNat = c.val.toNat := rfl
  rw [decide_eq_true_iff, h]
  omega
theorem new2 {H : Hp} {x dx : Addr} {o u : HO} (hx : H x = none) (hdx : H dx = none) (ne : dx ≠ x) : Same H (upd (upd H dx o) x u) := (same_new hdx).trans (same_new (by rw [upd_ne ne.symm]; exact hx))
theorem off_sub {H H' N : Hp} (s : Same H H') (off : Off H' N) : Off H N := fun b z => off b fun y => by
  cases q : H b with
  | none => exact z q
  | some o => rw [s _ _ q] at y; cases y
theorem off_at {H : Hp} {b : Addr} {o : HO} (h : H b = some o) (n : ∀ x u, o ≠ .frz x (.dK u)) : offD H b = some o := by
  unfold offD
  rw [h]
  split
  · rename_i h'
    exact absurd (Option.some.inj h') (n _ _)
  · rfl
section
variable {K : PySem.W.Frag}
theorem cutV_whole {xs : List V} {lo hi : Option Int} (h : HT.sIx xs.length 0 lo = 0 ∧ HT.sIx xs.length xs.length hi = xs.length) : cutV xs lo hi = xs := by
  unfold cutV
  rw [h.1, h.2, List.drop_zero, Nat.sub_zero, List.take_of_length_le (Nat.le_refl _)]
theorem slA_go {H : Hp} {a : Addr} {xs : List V} {lo hi : Option Int} {Q : VK} (h : SqT K H a xs) (k : ∀ t H', SqT K H' t (cutV xs lo hi) → Same H H' → Q (.ref t) H') : rSlA K (.ref a) lo hi H Q :=
  ⟨a, xs, rfl, h, fun w => k a H (by rw [cutV_whole w]; exact h) (Same.refl H), fun _ p hp => k p _ (SqT.of upd_same) (same_new hp)⟩
end
end K27
end

section
set_option Elab.async false
set_option linter.all false
set_option maxRecDepth 100000
set_option maxHeartbeats 4000000
/-! > of tuples of an int and a text -/
namespace KZ
open PySem PySem.Spec PyProof.Rows L2
section
open PySem.SeqAt
open MeetsSeq MeetsSeq2 MeetsSeq3 SeqRoads2
open AutoSeq1 (wpAny_loadPart')
variable {prog : Program} {w : World} {A : Around} {R : Result → Shared → Prop} {E : Value → Shared → Prop} {s : Shared}
/-- two tuples of two things: e: are the first equal; e2: the second; r: the answer -/
theorem tup_gt2 (l b : Addr) (u1 u2 v1 v2 : Value) (n n2 : Nat) (dd dd2 : Option Addr) (sl sl2 : Array (Option Value)) (e e2 r r2 : Bool) (s : Shared)
    (h1 : EqAt A.in1 s u1 v1 e) (h2 : EqAt A.in1 s u2 v2 e2) (g1 : e = false → Ob.RcOp .Gt A.in1 s u1 v1 r) (g2 : e2 = false → Ob.RcOp .Gt A.in1 s u2 v2 r2)
    (done : R (.ok (.ret (.bool (if e = true then (if e2 = true then false else r2) else r)))) s)
    (hl : s.heap.get? l = some { cls := .type "tuple", dict := dd, data := .seq #[u1, u2] n, slots := sl }) (hb : s.heap.get? b = some { cls := .type "tuple", dict := dd2, data := .seq #[v1, v2] n2, slots := sl2 }) :
    wpAny (model prog w) A.in1 (Builtin.«tuple.__gt__» ⟨[.ref l, .ref b], []⟩) (GQ.FinOf prog w A R) (fun e s' => R (.error e) s') s := by
  have sub := AutoSeq1.sub_tuple_tuple
  obtain ⟨hp, g, d, tk, os⟩ := s
  have zz : (#[u1, u2] : Array Value).toList.zip (#[v1, v2] : Array Value).toList = [(u1, v1), (u2, v2)] := rfl
  wp_walk using wpAny_loadPart' hl, wpAny_loadPart' hb, wpAny_forIn_list _ (fun rest q s' => q.1 = none ∧ s' = ⟨hp, g, d, tk, os⟩ ∧ (rest = [(u1, v1), (u2, v2)] ∨ (rest = [(u2, v2)] ∧ e = true) ∨ (rest = [] ∧ e = true ∧ e2 = true))) _
  case turn =>
    rintro ⟨y, x⟩ rest q s' ⟨hq, rfl, hr⟩
    rcases hr with hr | ⟨hr, he⟩ | ⟨hr, _⟩
    · cases hr
      refine wpAny_bind (h1 prog w _ _ ?_)
      cases he : e with
      | true =>
        wp_walk
        exact ⟨rfl, rfl, .inr (.inl ⟨rfl, rfl⟩)⟩
      | false =>
        rw [he] at done
        have z := g1 he prog w
        wp_walk using z
        exact done
    · cases hr
      subst he
      refine wpAny_bind (h2 prog w _ _ ?_)
      cases he2 : e2 with
      | true =>
        wp_walk
        exact ⟨rfl, rfl, .inr (.inr ⟨rfl, rfl, rfl⟩)⟩
      | false =>
        rw [he2] at done
        have z := g2 he2 prog w
        wp_walk using z
        exact done
    · cases hr
  case fin =>
    rintro ⟨b1, b2⟩ s' ⟨hq, rfl, hr⟩
    simp only at hq
    subst hq
    rcases hr with hr | ⟨hr, _⟩ | ⟨_, he, he2⟩
    · cases hr
    · cases hr
    · subst he
      subst he2
      wp_walk
      simpa [Builtin.Tuple.tupleCompareSizes] using done
  case h =>
    exact ⟨rfl, rfl, .inl rfl⟩
theorem rc_gt2 {l b : Addr} {u1 u2 v1 v2 : Value} {e e2 r r2 : Bool} {Q : Value → Shared → Prop} (hu : A.units < cLine) (hl : s.heap.IsTuple l #[u1, u2]) (hb : s.heap.IsTuple b #[v1, v2]) (h1 : EqAt A.in1 s u1 v1 e) (h2 : EqAt A.in1 s u2 v2 e2)
    (g1 : e = false → Ob.RcOp .Gt A.in1 s u1 v1 r) (g2 : e2 = false → Ob.RcOp .Gt A.in1 s u2 v2 r2) (q : Q (.bool (if e = true then (if e2 = true then false else r2) else r)) s) : wpAny (model prog w) A (richCompare .Gt (.ref l) (.ref b)) Q E s := by
  obtain ⟨⟨c1, d1, a1, s1⟩, o1, k1, n1, e1⟩ := id hl
  obtain ⟨⟨c2, d2, a2, s2⟩, o2, k2, n2, e2⟩ := id hb
  simp only at k1 e1 k2 e2
  subst k1 e1 k2 e2
  refine wpAny_richCompare_same_room (op := .Gt) ⟨_, o1, rfl⟩ ⟨_, o2, rfl⟩ PySem.F.slot_tuple_gt (GQ.call_here PySem.F.slot_tuple_gt ⟨_, o1, rfl⟩ PySem.F.entry_tuple_gt (PySem.F.args_tuple_gt_2 _ _) ?_) hu
  exact tup_gt2 (R := wants (fun v s' => v ≠ .notImplemented ∧ Q v s') E) l b u1 u2 v1 v2 n1 n2 d1 d2 s1 s2 e _ r r2 s h1 h2 g1 g2 ⟨(fun x => nomatch x), q⟩ o1 o2
end
/-- (i, x) > (j, y) -/
def gtIS (i : Int) (x : Str) (j : Int) (y : Str) : Bool := if i = j then decide (y.cps.toList < x.cps.toList) else decide (j < i)
def rGtIS (K : PySem.W.Frag) : R2 := fun p q H Q => ∃ a b i x j y, p = .ref a ∧ q = .ref b ∧ SqT K H a [.int i, .str x] ∧ SqT K H b [.int j, .str y] ∧ Q (.bl (gtIS i x j y)) H
theorem op_gtIS {X : Cx} (hu : X.A.units < cLine) : OpR X (compareOp .Gt) (rGtIS X.K) := by
  intro pins s σ H p q u v Q I rp rq h
  obtain ⟨a, b, i, x, j, y, rfl, rfl, ha, hb, q⟩ := h
  cases (show u = Value.ref a from rp)
  cases (show v = Value.ref b from rq)
  obtain ⟨us, ru, tu, _⟩ := I.tuple ha
  obtain ⟨vs, rv, tv, _⟩ := I.tuple hb
  cases ru with
  | cons r1 ru =>
    cases ru with
    | cons r2 ru =>
      cases ru
      cases rv with
      | cons q1 rv =>
        cases rv with
        | cons q2 rv =>
          cases rv
          obtain ⟨t1, rfl⟩ := r1
          obtain ⟨t2, rfl⟩ := r2
          obtain ⟨t3, rfl⟩ := q1
          obtain ⟨t4, rfl⟩ := q2
          show wpAny (model X.prog X.w) X.A (richCompare .Gt (.ref a) (.ref b)) (EP X pins σ Q) X.xe s
          refine rc_gt2 hu (u1 := .int i t1) (u2 := .str x t2) (v1 := .int j t3) (v2 := .str y t4) tu tv (SeqAt.EqAt.int_int i t1 j t3) (SeqAt.EqAt.str_str x t2 y t4) (fun _ => Ob.RcOp.gt_int i j t1 t3) (fun _ _ _ _ _ z => PySem.P.gt_str z) ?_
          refine ⟨.bl (gtIS i x j y), H, I, ?_, q⟩
          unfold gtIS
          by_cases e : i = j
          · rw [if_pos e, if_pos (by simpa using e)]
            by_cases e2 : x = y
            · rw [if_pos (by simpa using e2), e2]
              rw [decide_eq_false (List.lt_irrefl _)]
              exact rfl
            · rw [if_neg (by simpa using e2)]
              exact rfl
          · rw [if_neg e, if_neg (by simpa using e)]
            exact rfl
end KZ
end

section
set_option Elab.async false
set_option linter.all false
set_option maxRecDepth 100000
set_option maxHeartbeats 4000000
/-! what is kept: made, nothing, the greatest -/
namespace K27
open PySem PySem.Spec L2 KZ
abbrev sNoth : Stmt := top 12
abbrev sGr : Stmt := top 13
abbrev sGreat : Stmt := top 14
/-- a class that is made of what it is told -/
structure MkC (P : Program) (w : World) (K : PySem.W.Frag) (mg : Str → Option Value) (base : Heap) (C : Addr) (names : List Str) : Prop where
  ex : ∀ n : Nat, ∃ f fd, Mk K C f ∧ FnOk P w K mg base CX0 (n + 3) f fd (("self" : Str) :: names) (spInitN (n + 1) K C names) ∧ Binds K fd (("self" : Str) :: names) []
theorem ini_go {K : PySem.W.Frag} {n : Nat} {H : Hp} {x dx C : Addr} {names : List Str} {vals : List V} {fvs : List FV} {Q : Hp → Prop} (hx : H x = none) (hdx : H dx = none) (ne : dx ≠ x) (hl : vals.length = names.length) (ok : ∀ fv ∈ fvs, FvOk K (n + 1) (offD H) fv) (fv : Fvs K (offD H) vals fvs)
    (k : ∀ H' N vals', Same H H' → Off H N → Same N H' → H' x = some (.ins C dx (names.zip vals')) → Fvs K N vals' fvs → Q H') :
    spInitN (n + 1) K C names (.ref x :: vals) (upd (upd H dx (.own x)) x (.ins C dx [])) (fun v H2 => v = .non ∧ Q H2) E0 := by
  have s0 := new2 (o := .own x) (u := .ins C dx []) hx hdx ne
  exact ⟨x, dx, vals, fvs, offD H, rfl, hl, upd_same, ok, (offD_same H).trans s0, offD_nof H, (offD_same H).free hx, fv, fun vals' N H' off _ sm bt hx' fv' => ⟨rfl, k H' N vals' (fun b o e => bt b o (ne_of_none e hx) (s0 b o e)) (off_sub s0 off) sm hx' fv'⟩⟩
/-- what is kept of a key: nothing, or a stamp, a put, a value -/
inductive T3 where
  | no
  | so (n : Nat) (x : Str) (p v : Int)
def T3.st : T3 → Int × Str
  | .no => (0, "")
  | .so n x _ _ => (n, x)
def T3.d1 (t : T3) : PyData := .tuple [.int t.st.1, .str t.st.2]
def T3.d2 : T3 → PyData
  | .no => .none
  | .so _ _ p _ => .int p
def T3.d3 : T3 → PyData
  | .no => .none
  | .so _ _ _ v => .int v
def KtAt (K : PySem.W.Frag) (C : Addr) (H : Hp) (a : Addr) (t : T3) : Prop := ∃ dx v u x, H a = some (.ins C dx [("stamp", v), ("put", u), ("value", x)]) ∧ Dv K H v t.d1 ∧ Dv K H u t.d2 ∧ Dv K H x t.d3
theorem KtAt.mono {K : PySem.W.Frag} {C : Addr} {H H' : Hp} {a : Addr} {t : T3} (s : Same H H') (h : KtAt K C H a t) : KtAt K C H' a t := by
  obtain ⟨dx, v, u, x, h1, h2, h3, h4⟩ := h
  exact ⟨dx, v, u, x, s _ _ h1, Dv.mono s h2, Dv.mono s h3, Dv.mono s h4⟩
theorem dv_tup2 {K : PySem.W.Frag} {H : Hp} {v : V} {i : Int} {x : Str} (h : Dv K H v (.tuple [.int i, .str x])) : ∃ t, v = .ref t ∧ SqT K H t [.int i, .str x] := by
  cases h with
  | tup hs ha =>
    cases ha with
    | cons h1 ha =>
      cases ha with
      | cons h2 ha =>
        cases ha
        cases h1
        cases h2
        exact ⟨_, rfl, hs⟩
def gtB (nm : Bool) (s t : Int × Str) : Bool := if nm = true then gtIS s.1 s.2 t.1 t.2 else decide (t.1 < s.1)
def spNoth (K : PySem.W.Frag) (C : Addr) : Sp := fun vs H Q _ => vs = [] ∧ ∀ a H', Same H H' → H a = none → KtAt K C H' a .no → Q (.ref a) H'
def spGr (K : PySem.W.Frag) (C : Addr) : Sp := fun vs H Q _ => ∃ a b s t nm, vs = [.ref a, .ref b, .bl nm] ∧ KtAt K C H a s ∧ KtAt K C H b t ∧ Q (.bl (gtB nm s.st t.st)) H
/-- the first of the greatest -/
def gMax (nm : Bool) (ts : List T3) : Nat → Nat
  | 0 => 0
  | i + 1 => if gtB nm ((ts.getD i .no).st) ((ts.getD (gMax nm ts i) .no).st) = true then i else gMax nm ts i
theorem gMax_lt (nm : Bool) (ts : List T3) (h : 0 < ts.length) : ∀ i, i ≤ ts.length → gMax nm ts i < ts.length
  | 0, _ => h
  | i + 1, hi => by
    show (if _ then i else gMax nm ts i) < _
    split
    · exact hi
    · exact gMax_lt nm ts h i (Nat.le_of_succ_le hi)
def KtsAt (K : PySem.W.Frag) (C : Addr) (H : Hp) (as : List Addr) (ts : List T3) : Prop := Paired (KtAt K C H) as ts
def spGreat (K : PySem.W.Frag) (C : Addr) : Sp := fun vs H Q _ => ∃ l as ts nm, vs = [.ref l, .bl nm] ∧ Sq K H l (as.map V.ref) ∧ KtsAt K C H as ts ∧ 0 < ts.length ∧ ∀ a, as[gMax nm ts ts.length]? = some a → Q (.ref a) H
/-- a def with defaults that lets nothing out -/
theorem okD {P : Program} {w : World} {K : PySem.W.Frag} {mg : Str → Option Value} {base : Heap} {x qual : Str} {params : Arguments} {body : List Stmt} {scope : Scope} {dvs : List V} {kws : List (Str × V)} {f : Addr} {fd : FuncData} {N ps : List Str} {k : Nat} {sp : Sp}
    (F : FunD K x qual params body scope dvs kws f fd) (S : FnScope N ps scope) (len : ∀ vs H Q E, sp vs H Q E → vs.length = ps.length)
    (hb : ∀ (cdv : Value) (A : Around) (out : List Env) (s : Shared) (H : Hp) (vs : List V) (Q : VK) (E : XK), Room k (A.deeper (PyProof.Rows.envOfC qual scope s.heap.objs.size f cdv)) → sp vs H Q E →
      ∃ t, PSs (cxOf CX0 P w K mg base N qual scope f cdv A out s H E).nox body t ∧ t { nx := fun _ H' => Q .non H', rt := Q } (L2.start N vs) H) : FnOk P w K mg base CX0 (k + 1) f fd ps sp :=
  F.ok S len fun cdv A out s H vs Q E hr h => let ⟨t, ht, q⟩ := hb cdv A out s H vs Q E hr h; ⟨t, ht.nox, q⟩
section
variable {P : Program} {w : World} {K : PySem.W.Frag} {mg : Str → Option Value} {base : Heap} {C : Addr}
theorem scNoth : FnScope [] [] (defScope sNoth) := ⟨rfl, rfl, rfl, by decide +kernel, rfl, by decide +kernel, by decide +kernel⟩
theorem scGr : FnScope ["one", "other", "names"] ["one", "other", "names"] (defScope sGr) := ⟨rfl, rfl, rfl, by decide +kernel, rfl, by decide +kernel, by decide +kernel⟩
theorem scGreat : FnScope ["kepts", "names", "found", "kept"] ["kepts", "names"] (defScope sGreat) := ⟨rfl, rfl, rfl, by decide +kernel, rfl, by decide +kernel, by decide +kernel⟩
/-- Kept(v, u, x) of data -/
theorem kt_go {n : Nat} {H : Hp} {x dx : Addr} {v u y : V} {t : T3} {Q : Hp → Prop} (hx : H x = none) (hdx : H dx = none) (ne : dx ≠ x) (h1 : Dv K (offD H) v t.d1) (h2 : Dv K (offD H) u t.d2) (h3 : Dv K (offD H) y t.d3)
    (k : ∀ H', Same H H' → KtAt K C H' x t → Q H') : spInitN (n + 1) K C kF [.ref x, v, u, y] (upd (upd H dx (.own x)) x (.ins C dx [])) (fun v H2 => v = .non ∧ Q H2) E0 := by
  have c1 : Cp (n + 1) t.d1 := ⟨by show 2 ≤ 2000; decide, fun d m => by
    rcases List.mem_cons.mp m with rfl | m
    · cases n <;> exact True.intro
    · rw [List.mem_singleton.mp m]
      cases n <;> exact True.intro⟩
  have c2 : Cp (n + 1) t.d2 := by cases t <;> exact True.intro
  have c3 : Cp (n + 1) t.d3 := by cases t <;> exact True.intro
  refine ini_go (vals := [v, u, y]) (fvs := [.dat t.d1, .dat t.d2, .dat t.d3]) hx hdx ne rfl (fun fv m => ?_) (.cons h1 (.cons h2 (.cons h3 .nil))) fun H' N vals' s _ sm e fv => ?_
  · simp only [List.mem_cons, List.not_mem_nil, or_false] at m
    rcases m with rfl | rfl | rfl
    · exact c1
    · exact c2
    · exact c3
  · cases fv with
    | cons a1 fv =>
      cases fv with
      | cons a2 fv =>
        cases fv with
        | cons a3 fv =>
          cases fv
          exact k H' s ⟨dx, _, _, _, e, Dv.mono sm a1, Dv.mono sm a2, Dv.mono sm a3⟩
theorem ok_noth {f : Addr} {fd : FuncData} (F : Fun K "nothing" "nothing" sNoth f fd) (A : ClsF K mg "Kept" C kF) (M : MkC P w K mg base C kF) : FnOk P w K mg base CX0 5 f fd [] (spNoth K C) := by
  obtain ⟨fI, dI, MK, GI, bI⟩ := M.ex 0
  refine F.ok scNoth (fun vs H Q E h => ?_) (fun cdv A' outer s H vs Q E hr h => ?_)
  · obtain ⟨rfl, _⟩ := h
    rfl
  · obtain ⟨rfl, q⟩ := h
    have hr3 : Room 4 _ := hr
    refine ⟨_, (pss_one (ps_ret (pe_make MK GI hr3 (by rfl) A.g bI .nil pass0 (pa_cons (pe_tup (pa_cons pe_int (pa_cons pe_str pa_nil))) (pa_cons pe_non (pa_cons pe_non pa_nil)))))), ?_⟩
    refine ⟨by show 2 ≤ sizeLine; decide, fun T hT => fun x dx hx hdx ne => ?_⟩
    have hT2 : upd H T (.tup [.int 0, .str ""]) T = some (.tup [.int 0, .str ""]) := upd_same
    refine kt_go (t := .no) hx hdx ne (.tup (SqT.of (off_at hT2 fun _ _ z => nomatch z)) (.cons (.int 0) (.cons (.str "") .nil))) .non .non fun H' s' at_ => q x H' ((same_new hT).trans s') ((same_new hT).free hx) at_
theorem ok_gr {f : Addr} {fd : FuncData} (F : FunD K "is_greater" "is_greater" (defArgs sGr) (defBody sGr) (defScope sGr) [.bl true] [] f fd) (A : ClsF K mg "Kept" C kF) : FnOk P w K mg base CX0 1 f fd ["one", "other", "names"] (spGr K C) := by
  refine okD F scGr (fun vs H Q E h => ?_) (fun cdv A' outer s H vs Q E hr h => ?_)
  · obtain ⟨a, b, s, t, nm, rfl, _⟩ := h
    rfl
  · obtain ⟨a, b, s, t, nm, rfl, ⟨dx, v1, v2, v3, ha, d1, _, _⟩, ⟨dy, u1, u2, u3, hb, e1, _, _⟩, q⟩ := h
    obtain ⟨t1, rfl, k1⟩ := dv_tup2 d1
    obtain ⟨t2, rfl, k2⟩ := dv_tup2 e1
    refine ⟨_, (pss_cons (ps_if (pt_val (pv 2))
(pss_one (ps_ret (pe_cmpR (op_gtIS hr.units0) (pe_fldK K (pv 0) rfl) (pe_fldK K (pv 1) rfl) (nomark _))))
pss_nil)
(pss_one (ps_ret (pe_cmpR op_gt (pe_ix (ix_seqK K) (pe_fldK K (pv 0) rfl) pe_int (fun _ _ => rfl)) (pe_ix (ix_seqK K) (pe_fldK K (pv 1) rfl) pe_int (fun _ _ => rfl)) (nomark _))))), ?_⟩
    have no : NoAttr K C "stamp" := A.no _ (by decide)
    refine ⟨_, rfl, _, rfl, ?_⟩
    cases nm with
    | true =>
      refine iteT ⟨.ref a, rfl, a, C, dx, _, _, rfl, ha, A.cl, no, rfl, .ref b, rfl, b, C, dy, _, _, rfl, hb, A.cl, no, rfl, ?_⟩
      exact ⟨t1, t2, _, _, _, _, rfl, rfl, k1, k2, q⟩
    | false =>
      refine iteF ⟨.ref a, rfl, a, C, dx, _, _, rfl, ha, A.cl, no, rfl, Sq.ix (.inr k1) rfl ?_⟩
      refine ⟨.ref b, rfl, b, C, dy, _, _, rfl, hb, A.cl, no, rfl, Sq.ix (.inr k2) rfl ?_⟩
      exact ⟨_, _, rfl, rfl, q⟩
theorem ok_great {f fG : Addr} {fd dG : FuncData} (F : FunD K "greatest" "greatest" (defArgs sGreat) (defBody sGreat) (defScope sGreat) [.bl true] [] f fd) (gG : mg "is_greater" = some (.ref fG)) (GG : FnOk P w K mg base CX0 1 fG dG ["one", "other", "names"] (spGr K C)) (kG : PySem.W.keepIn K (.ref fG) = true) (bG : Binds K dG ["one", "other", "names"] []) :
    FnOk P w K mg base CX0 2 f fd ["kepts", "names"] (spGreat K C) := by
  refine okD F scGreat (fun vs H Q E h => ?_) (fun cdv A' outer s H vs Q E hr h => ?_)
  · obtain ⟨l, as, ts, nm, rfl, _⟩ := h
    rfl
  · obtain ⟨l, as, ts, nm, rfl, hl, ks, h0, q⟩ := h
    have hr1 : Room 1 _ := hr
    have la : as.length = ts.length := Paired.length ks
    have at_ : ∀ i, i < ts.length → ∃ a t, as[i]? = some a ∧ ts.getD i .no = t ∧ KtAt K C H a t := fun i hi => by
      obtain ⟨t, e, k⟩ := paired_get ks (List.getElem?_eq_getElem (show i < as.length by omega))
      exact ⟨_, t, List.getElem?_eq_getElem _, by rw [List.getD_eq_getElem?_getD, e]; rfl, k⟩
    refine ⟨_, (pss_cons (ps_set (i := 2) scGreat.nd rfl (Or.inl rfl) (pe_ix (ix_seqK K) (pv 0) pe_int (fun _ _ => rfl)))
(pss_cons (ps_for PassesOwn.never rfl (pi_sq (pv 0)) (pg_name (i := 3) scGreat.nd rfl (Or.inl rfl))
(pss_one (ps_if (pt_val (pe_call GG hr1 (by rfl) gG kG bG .nil pass0 (pa_cons (pv 3) (pa_cons (pv 2) (pa_cons (pv 1) pa_nil)))))
(pss_one (ps_set (i := 2) scGreat.nd rfl (Or.inl rfl) (pv 3)))
pss_nil)))
(pss_one (ps_ret (pv 2))))), ?_⟩
    obtain ⟨a0, t0, e0, _, _⟩ := at_ 0 h0
    refine ⟨.ref l, rfl, hl.ix (at_nat (i := 0) (by rw [List.getElem?_map, e0]; rfl)) ?_⟩
    refine ⟨_, rfl, l, _, rfl, hl, fun J G wk hG => ?_⟩
    refine for_it wk (fun k σ H' => H' = H ∧ ∃ a x3, σ = [some (.ref l), some (.bl nm), some (.ref a), x3] ∧ as[gMax nm ts k]? = some a) ⟨rfl, a0, _, rfl, e0⟩ (fun i σ H' _ e => hG _ (by rw [e.1]; exact Same.refl H)) ?_ ?_
    · rintro k x σ H7 H8 hk ⟨rfl, a, x3, rfl, ea⟩ ⟨rfl, hx⟩
      have hk2 : k < ts.length := by rw [List.length_map] at hk; omega
      obtain ⟨b, tb, eb, gb, kb⟩ := at_ k hk2
      have ex : x = .ref b := by
        rw [List.getElem?_map, eb] at hx
        exact (Option.some.inj hx).symm
      subst ex
      obtain ⟨a', ta, ea', ga, ka⟩ := at_ _ (gMax_lt nm ts h0 k (Nat.le_of_lt hk2))
      cases ea.symm.trans ea'
      refine ⟨_, rfl, _, rfl, _, rfl, b, a, tb, ta, nm, rfl, kb, ka, _, rfl, ?_⟩
      have step : gMax nm ts (k + 1) = if gtB nm tb.st ta.st = true then k else gMax nm ts k := by
        show (if gtB nm ((ts.getD k .no).st) ((ts.getD (gMax nm ts k) .no).st) = true then k else gMax nm ts k) = _
        rw [gb, ga]
      cases hg : gtB nm tb.st ta.st with
      | true =>
        rw [hg, if_pos rfl] at step
        exact iteT ⟨_, rfl, rfl, b, _, rfl, by rw [step]; exact eb⟩
      | false =>
        rw [hg, if_neg Bool.false_ne_true] at step
        exact iteF ⟨rfl, a, _, rfl, by rw [step]; exact ea⟩
    · rintro σ H7 ⟨rfl, a, x3, rfl, ea⟩
      rw [List.length_map, show as.length = ts.length from la] at ea
      exact ⟨_, rfl, q a ea⟩
end
end K27
end

section
set_option Elab.async false
set_option linter.all false
set_option maxRecDepth 100000
set_option maxHeartbeats 4000000
/-! len(d), the dict locked or not -/
namespace KZ
open PySem PySem.Spec PyProof.Rows L2
def rLenR : List V → Hp → VK → Prop := fun xs H Q => ∃ a kvs, xs = [V.ref a] ∧ Rd H a (.dK kvs) ∧ Q (.int kvs.length) H
theorem call_lenR {X : Cx} : CallR X (.builtin "len") rLenR := by
  intro pins s σ H xs us Q I r h
  obtain ⟨a, kvs, rfl, hd, q⟩ := h
  obtain ⟨u, rfl, ru⟩ := vals1 r
  obtain rfl : u = Value.ref a := ru
  exact d_len I hd fun t s' I' => ⟨.int kvs.length, H, I', ⟨t, rfl⟩, q⟩
end KZ
end

section
set_option Elab.async false
set_option linter.all false
set_option maxRecDepth 100000
set_option maxHeartbeats 4000000
/-! hosts: made, asked -/
namespace K27
open PySem PySem.Spec L2 KZ
abbrev sHI : Stmt := mem 16 0
abbrev sHK : Stmt := mem 16 1
abbrev sHC : Stmt := mem 16 3
abbrev sHIt : Stmt := mem 16 4
abbrev sHL : Stmt := mem 16 5
abbrev hF : List Str := ["place", "closed", "_kepts"]
/-- what a dict of what is kept holds: its keys, what is kept of each -/
def KvsAt (K : PySem.W.Frag) (CK : Addr) (H : Hp) (f : Int → T3) (kvs : List (Key × V)) (ks : List Int) : Prop := Paired (fun (p : Key × V) (k : Int) => p.1 = Sum.inl k ∧ ∃ b, p.2 = V.ref b ∧ KtAt K CK H b (f k)) kvs ks
theorem KvsAt.mono {K : PySem.W.Frag} {CK : Addr} {H H' : Hp} {f : Int → T3} {kvs : List (Key × V)} {ks : List Int} (s : Same H H') (h : KvsAt K CK H f kvs ks) : KvsAt K CK H' f kvs ks := Paired.mapP h fun _ _ ⟨e, b, e2, k⟩ => ⟨e, b, e2, k.mono s⟩
theorem kvs_val {K : PySem.W.Frag} {CK : Addr} {H : Hp} {f : Int → T3} {kvs : List (Key × V)} {ks : List Int} (h : KvsAt K CK H f kvs ks) (k : Int) : (k ∈ ks ∧ ∃ b, valV kvs (Sum.inl k) = some (.ref b) ∧ KtAt K CK H b (f k)) ∨ (k ∉ ks ∧ valV kvs (Sum.inl k) = none) := by
  unfold KvsAt at h
  induction h with
  | nil => exact .inr ⟨List.not_mem_nil, rfl⟩
  | @cons p j ps js hh _ ih =>
    obtain ⟨e, b, e2, kt⟩ := hh
    by_cases hk : j = k
    · subst hk
      exact .inl ⟨List.mem_cons_self, b, by rw [valV_pos e, e2], kt⟩
    · have ne : ¬ p.1 = Sum.inl k := fun z => hk (Sum.inl.inj (e.symm.trans z))
      rcases ih with ⟨m, b', v, kt'⟩ | ⟨m, v⟩
      · exact .inl ⟨List.mem_cons_of_mem _ m, b', by rw [valV_neg ne]; exact v, kt'⟩
      · exact .inr ⟨fun z => (List.mem_cons.mp z).elim (fun y => hk y.symm) m, by rw [valV_neg ne]; exact v⟩
/-- at a: a host; L: its dict may be locked -/
structure HostL (K : PySem.W.Frag) (CK CH : Addr) (H : Hp) (a d : Addr) (p c : Int) (f : Int → T3) (kvs : List (Key × V)) (ks : List Int) : Prop where
  at_ : ∃ dx, H a = some (.ins CH dx [("place", .int p), ("closed", .int c), ("_kepts", .ref d)])
  d : Rd H d (.dK kvs)
  kv : KvsAt K CK H f kvs ks
  iff : ∀ k, k ∈ ks ↔ f k ≠ .no
theorem HostL.mono {K : PySem.W.Frag} {CK CH : Addr} {H H' : Hp} {a d : Addr} {p c : Int} {f : Int → T3} {kvs : List (Key × V)} {ks : List Int} (s : Same H H') (h : HostL K CK CH H a d p c f kvs ks) : HostL K CK CH H' a d p c f kvs ks :=
  ⟨let ⟨dx, e⟩ := h.at_; ⟨dx, s _ _ e⟩, h.d.elim (fun z => .inl (s _ _ z)) fun ⟨o, z⟩ => .inr ⟨o, s _ _ z⟩, h.kv.mono s, h.iff⟩
/-- an error of the class c goes out, its value is d -/
def OutV (K : PySem.W.Frag) (c : Addr) (d : PyData) (H : Hp) (E : XK) : Prop := ∀ v' dd H', Same H H' → H' dd = some (.xd [("value", v')]) → Dv K H' v' d → E (.ref c) (some dd) H'
def inPl (i : Int) : Prop := 0 ≤ i ∧ i ≤ 999999999
theorem within_pl {i : Int} (h : inPl i) : within 0 999999999 (.int i) = true := by
  show (decide (0 ≤ i) && decide (i ≤ 999999999)) = true
  rw [decide_eq_true h.1, decide_eq_true h.2]
  rfl
def spHI (K : PySem.W.Frag) (CH cB : Addr) : Sp := fun vs H Q E => ∃ a v d dx, vs = [.ref a, v] ∧ Dv K (offD H) v d ∧ Cp 3 d ∧ H a = some (.ins CH dx []) ∧
  (∀ i, d = .int i → inPl i → ∀ dk H', H dk = none → (∀ b o, b ≠ a → H b = some o → H' b = some o) → H' a = some (.ins CH dx [("place", .int i), ("closed", .int (-1)), ("_kepts", .ref dk)]) → H' dk = some (.dK []) → Q .non H') ∧
  (within 0 999999999 d = false → OutV K cB d H E)
def spHK (K : PySem.W.Frag) (CK CH cB : Addr) : Sp := fun vs H Q E => ∃ a v d dd p c f kvs ks, vs = [.ref a, v] ∧ Dv K (offD H) v d ∧ Cp 3 d ∧ HostL K CK CH H a dd p c f kvs ks ∧
  (∀ i, d = .int i → inPl i → ∀ b H', Same H H' → KtAt K CK H' b (f i) → Q (.ref b) H') ∧ (within 0 999999999 d = false → OutV K cB d H E)
def spHC (K : PySem.W.Frag) (CK CH : Addr) : Sp := fun vs H Q _ => ∃ a v d dd p c f kvs ks, vs = [.ref a, v] ∧ Dv K H v d ∧ HostL K CK CH H a dd p c f kvs ks ∧
  (∀ i, d = .int i → inPl i → Q (.bl (decide (i ∈ ks))) H) ∧ (within 0 999999999 d = false → Q (.bl false) H)
def spHL (K : PySem.W.Frag) (CK CH : Addr) : Sp := fun vs H Q _ => ∃ a dd p c f kvs ks, vs = [.ref a] ∧ HostL K CK CH H a dd p c f kvs ks ∧ Q (.int ks.length) H
section
variable {P : Program} {w : World} {K : PySem.W.Frag} {mg : Str → Option Value} {base : Heap} {CK CH cB fP fNo : Addr} {dP dNo : FuncData}
theorem scHI : FnScope ["self", "place"] ["self", "place"] (defScope sHI) := ⟨rfl, rfl, rfl, by decide +kernel, rfl, by decide +kernel, by decide +kernel⟩
theorem scHK : FnScope ["self", "key"] ["self", "key"] (defScope sHK) := ⟨rfl, rfl, rfl, by decide +kernel, rfl, by decide +kernel, by decide +kernel⟩
theorem scHC : FnScope ["self", "key"] ["self", "key"] (defScope sHC) := ⟨rfl, rfl, rfl, by decide +kernel, rfl, by decide +kernel, by decide +kernel⟩
theorem scHIt : FnScope ["self"] ["self"] (defScope sHIt) := ⟨rfl, rfl, rfl, by decide +kernel, rfl, by decide +kernel, by decide +kernel⟩
theorem scHL : FnScope ["self"] ["self"] (defScope sHL) := ⟨rfl, rfl, rfl, by decide +kernel, rfl, by decide +kernel, by decide +kernel⟩
theorem within_cases (d : PyData) : (∃ i, d = .int i ∧ inPl i) ∨ within 0 999999999 d = false := by
  cases d with
  | int i =>
    by_cases h : inPl i
    · exact .inl ⟨i, rfl, h⟩
    · refine .inr ?_
      show (decide (0 ≤ i) && decide (i ≤ 999999999)) = false
      by_cases h1 : 0 ≤ i
      · rw [decide_eq_false (fun z => h ⟨h1, z⟩), Bool.and_false]
      · rw [decide_eq_false h1]
        rfl
  | _ => exact .inr rfl
/-- the error that is raised of a datum -/
theorem raise_dat {σ : L2.St} {H : Hp} {E : XK} {i : Nat} {v : V} {d : PyData} (hv : σ[i]? = some (some v)) (dv : Dv K (offD H) v d) (cp : Cp 3 d) (q : OutV K cB d H E) : tMkO cB (spE1 K cB "value") [] (tCons (tVar i) tNil) σ H fun cls d H' => E cls d H' := by
  refine ⟨v, hv, (show 1 ≤ 1000 by decide), fun a ha => ⟨a, v, d, offD H, rfl, cp, (offD_same H).trans (same_new ha), offD_nof H, (offD_same H).free ha, dv, upd_same, ?_⟩⟩
  intro v' G' dx H' s1 nf' bs ga gd hdx ne s' kp ea ed dv'
  refine ⟨rfl, dx, _, ea, ed, by rw [upd_ne ne] at hdx; exact hdx, q v' dx _ (fun b o e => ?_) upd_same ?_⟩
  · have hb : b ≠ a := ne_of_none e ha
    rw [upd_ne ne] at hdx
    rw [upd_ne (ne_of_none e hdx), del_ne hb]
    exact kp _ _ hb (by rw [upd_ne hb]; exact e)
  · refine Dv.mono (fun b o e => ?_) dv'
    rw [upd_ne (ne_of_none e gd), del_ne (ne_of_none e ga)]
    exact s' _ _ e
theorem ok_hi {f : Addr} {fd : FuncData} {q : Str} (F : Fun K "__init__" q sHI f fd) (A : ClsF K mg "Host" CH hF) (gP : mg "is_place" = some (.ref fP)) (GP : FnOk P w K mg base CX0 3 fP dP ["value"] (spPlace K)) (kP : PySem.W.keepIn K (.ref fP) = true) (bP : Binds K dP ["value"] [])
    (M : Mk1 P w K mg base "BadNumber" cB "value" "value") : FnOk P w K mg base (L2.CX P w) 7 f fd ["self", "place"] (spHI K CH cB) := by
  obtain ⟨fR, dR, ER, FR, bR, _⟩ := M.has
  refine F.okX scHI (fun vs H Q E h => ?_) (fun cdv A' outer s H vs Q E hr h => ?_)
  · obtain ⟨a, v, d, dx, rfl, _⟩ := h
    rfl
  · obtain ⟨a, v, d, dx, rfl, dv, cp, ha, q1, q2⟩ := h
    have hr3 : Room 3 _ := hr.mono (by decide)
    have hr5 := hr
    refine ⟨_, (pss_cons (ps_if (pt_not (pt_val (pe_call GP hr3 (by rfl) gP kP bP .nil pass0 (pa_cons (pv 1) pa_nil))))
(pss_one (ps_raise rfl (takes_of rfl rfl rfl rfl) (pmk_oex ER.ox ER.ini ER.ti FR hr5 bR .nil pass0 (by rfl) ER.gl (pa_cons (pv 1) pa_nil))))
pss_nil)
(pss_cons (ps_fld (pv 0) (pv 1) rfl)
(pss_cons (ps_fld (pv 0) (pe_un un_neg pe_int) rfl)
(pss_one (ps_fld (pv 0) pe_dnewK rfl))))), ?_⟩
    refine ⟨v, rfl, v, d, rfl, Dv.mono (offD_same H) dv, _, rfl, ?_⟩
    rcases within_cases d with ⟨i, rfl, hi⟩ | hw
    · rw [within_pl hi]
      refine iteF' ?_
      cases dv
      have no : ∀ f ∈ hF, NoAttr K CH f := A.no
      refine ⟨_, rfl, .ref a, rfl, a, CH, dx, [], rfl, ha, A.cl, no _ (by decide), (by decide), ?_⟩
      refine ⟨_, rfl, .ref a, rfl, a, CH, dx, _, rfl, upd_same, A.cl, no _ (by decide), (by show 1 < 1000; decide), ?_⟩
      refine fun dk hdk => ⟨.ref a, rfl, a, CH, dx, [("place", .int i), ("closed", .int (-1))], rfl, ?_, A.cl, no _ (by decide), (show 2 < 1000 from by omega), ?_⟩
      · rw [upd_ne (fun z => by rw [← z, upd_same] at hdk; cases hdk), upd_same]
        rfl
      · have na : dk ≠ a := fun z => by rw [z, upd_same] at hdk; cases hdk
        have hdk' : H dk = none := by rwa [upd_ne na, upd_ne na] at hdk
        refine q1 i rfl hi dk _ hdk' (fun b o hb e => ?_) upd_same (by rw [upd_ne na, upd_same])
        rw [upd_ne hb, upd_ne (ne_of_none e hdk'), upd_ne hb, upd_ne hb]
        exact e
    · rw [hw]
      exact iteT' (raise_dat rfl dv cp (q2 hw))
theorem ok_hk {f : Addr} {fd : FuncData} {q : Str} (F : Fun K "kept" q sHK f fd) (A : ClsF K mg "Host" CH hF) (gP : mg "is_place" = some (.ref fP)) (GP : FnOk P w K mg base CX0 3 fP dP ["value"] (spPlace K)) (kP : PySem.W.keepIn K (.ref fP) = true) (bP : Binds K dP ["value"] [])
    (M : Mk1 P w K mg base "BadNumber" cB "value" "value") (gNo : mg "nothing" = some (.ref fNo)) (GNo : FnOk P w K mg base CX0 5 fNo dNo [] (spNoth K CK)) (kNo : PySem.W.keepIn K (.ref fNo) = true) (bNo : Binds K dNo [] []) : FnOk P w K mg base (L2.CX P w) 7 f fd ["self", "key"] (spHK K CK CH cB) := by
  obtain ⟨fR, dR, ER, FR, bR, _⟩ := M.has
  refine F.okX scHK (fun vs H Q E h => ?_) (fun cdv A' outer s H vs Q E hr h => ?_)
  · obtain ⟨a, v, d, dd, p, c, f, kvs, ks, rfl, _⟩ := h
    rfl
  · obtain ⟨a, v, d, dd, p, c, f, kvs, ks, rfl, dv, cp, hh, q1, q2⟩ := h
    have hr3 : Room 3 _ := hr.mono (by decide)
    have hr5 := hr
    have hrN : Room 5 _ := hr.mono (by decide)
    refine ⟨_, (pss_cons (ps_if (pt_not (pt_val (pe_call GP hr3 (by rfl) gP kP bP .nil pass0 (pa_cons (pv 1) pa_nil))))
(pss_one (ps_raise rfl (takes_of rfl rfl rfl rfl) (pmk_oex ER.ox ER.ini ER.ti FR hr5 bR .nil pass0 (by rfl) ER.gl (pa_cons (pv 1) pa_nil))))
pss_nil)
(pss_one (ps_ret (pe_ifExp (pt_cmp (pc_din (hu_of hr) (pv 1) (pe_fldK K (pv 0) rfl))) (pe_dget (hu_of hr) (pe_fldK K (pv 0) rfl) (pv 1) (fun _ _ => rfl)) (pe_call0 GNo hrN (by rfl) gNo kNo bNo .nil pass0))))), ?_⟩
    refine ⟨v, rfl, v, d, rfl, Dv.mono (offD_same H) dv, _, rfl, ?_⟩
    rcases within_cases d with ⟨i, rfl, hi⟩ | hw
    · rw [within_pl hi]
      refine iteF' ?_
      cases dv
      have no : NoAttr K CH "_kepts" := A.no _ (by decide)
      obtain ⟨dx, ha⟩ := hh.at_
      rcases kvs_val hh.kv i with ⟨m, b, hv, kt⟩ | ⟨m, hv⟩
      · refine ⟨_, rfl, .ref a, rfl, a, CH, dx, _, .ref dd, rfl, ha, A.cl, no, rfl, dd, _, rfl, .inl ⟨kvs, Sum.inl i, hh.d, rfl, rfl⟩, ?_⟩
        rw [hv]
        refine ⟨true, rfl, ?_⟩
        refine iteT' ⟨.ref a, rfl, a, CH, dx, _, .ref dd, rfl, ha, A.cl, no, rfl, _, rfl, dd, .ref b, rfl, .inl ⟨kvs, Sum.inl i, hh.d, rfl, hv.symm⟩, ?_⟩
        exact q1 i rfl hi b H (Same.refl H) kt
      · refine ⟨_, rfl, .ref a, rfl, a, CH, dx, _, .ref dd, rfl, ha, A.cl, no, rfl, dd, _, rfl, .inl ⟨kvs, Sum.inl i, hh.d, rfl, rfl⟩, ?_⟩
        rw [hv]
        have fz : f i = .no := by
          by_cases z : f i = .no
          · exact z
          · exact absurd ((hh.iff i).mpr z) m
        refine ⟨false, rfl, ?_⟩
        exact iteF' ⟨rfl, fun b H' s' _ kt => q1 i rfl hi b H' s' (by rw [fz]; exact kt)⟩
    · rw [hw]
      exact iteT' (raise_dat rfl dv cp (q2 hw))
theorem ok_hc {f : Addr} {fd : FuncData} {q : Str} (F : Fun K "__contains__" q sHC f fd) (A : ClsF K mg "Host" CH hF) (gP : mg "is_place" = some (.ref fP)) (GP : FnOk P w K mg base CX0 3 fP dP ["value"] (spPlace K)) (kP : PySem.W.keepIn K (.ref fP) = true) (bP : Binds K dP ["value"] []) :
    FnOk P w K mg base CX0 4 f fd ["self", "key"] (spHC K CK CH) := by
  refine F.ok scHC (fun vs H Q E h => ?_) (fun cdv A' outer s H vs Q E hr h => ?_)
  · obtain ⟨a, v, d, dd, p, c, f, kvs, ks, rfl, _⟩ := h
    rfl
  · obtain ⟨a, v, d, dd, p, c, f, kvs, ks, rfl, dv, hh, q1, q2⟩ := h
    have hr3 : Room 3 _ := hr
    refine ⟨_, (pss_one (ps_ret (pe_and (pe_call GP hr3 (by rfl) gP kP bP .nil pass0 (pa_cons (pv 1) pa_nil)) (pe_one (pe_cmp (pc_din (hu_of hr) (pv 1) (pe_fldK K (pv 0) rfl))))))), ?_⟩
    refine ⟨v, rfl, v, d, rfl, dv, _, rfl, ?_⟩
    rcases within_cases d with ⟨i, rfl, hi⟩ | hw
    · rw [within_pl hi]
      cases dv
      have no : NoAttr K CH "_kepts" := A.no _ (by decide)
      obtain ⟨dx, ha⟩ := hh.at_
      refine iteT' ⟨_, rfl, .ref a, rfl, a, CH, dx, _, .ref dd, rfl, ha, A.cl, no, rfl, dd, _, rfl, .inl ⟨kvs, Sum.inl i, hh.d, rfl, rfl⟩, ?_⟩
      have z := q1 i rfl hi
      rcases kvs_val hh.kv i with ⟨m, b, hv, kt⟩ | ⟨m, hv⟩
      · rw [decide_eq_true m] at z
        rw [hv]
        exact z
      · rw [decide_eq_false m] at z
        rw [hv]
        exact z
    · rw [hw]
      exact iteF' (q2 hw)
theorem ok_hl {f : Addr} {fd : FuncData} {q : Str} (F : Fun K "__len__" q sHL f fd) (A : ClsF K mg "Host" CH hF) (T : B0 mg) : FnOk P w K mg base CX0 1 f fd ["self"] (spHL K CK CH) := by
  refine F.ok scHL (fun vs H Q E h => ?_) (fun cdv A' outer s H vs Q E hr h => ?_)
  · obtain ⟨a, dd, p, c, f, kvs, ks, rfl, _⟩ := h
    rfl
  · obtain ⟨a, dd, p, c, f, kvs, ks, rfl, hh, q⟩ := h
    refine ⟨_, (pss_one (ps_ret (pe_callB call_lenR (by rfl) T.len PySem.boot_len (pa_cons (pe_fld (pv 0) rfl) pa_nil)))), ?_⟩
    obtain ⟨dx, ha⟩ := hh.at_
    refine ⟨.ref a, rfl, a, CH, dx, _, .ref dd, rfl, ha, A.cl, A.no _ (by decide), rfl, dd, kvs, rfl, hh.d, ?_⟩
    rw [show kvs.length = ks.length from Paired.length hh.kv]
    exact q
theorem ok_hit {f : Addr} {fd : FuncData} {q : Str} (F : Fun K "__iter__" q sHIt f fd) (A : ClsF K mg "Host" CH hF) (gI : mg "iter" = none) (hb : Binds K fd ["self"] []) (it : PySem.W.findIn K (.ref CH) "__iter__" = some (some (.ref f))) (fn : PySem.W.isFn K (.ref f) = true) : ItF P w K mg base 1 CH f "_kepts" := by
  refine ⟨it, fn, fun A' out s H a dx d fs o kvs Q hr e0 ha hl hd k => ?_⟩
  obtain ⟨oc, od, kV, doc, pm, an, cdv, ct, osl, rfl, lk, hcd⟩ := F.ex
  refine LamX.run_ofS (N := ["self"]) (ps := ["self"]) (us := [.ref a]) (vs := [.ref a]) lk hcd scHIt hr e0 (by
    have z := hb s [.ref a] (e0.mod.kin.keeps fun b o e => (e0.bs b o e).1) rfl
    simpa using z) (.cons rfl .nil) rfl fun hr' => ?_
  refine ⟨_, PSs.nox (pss_one (ps_ret (pe_callB call_iterK (by rfl) gI (by decide +kernel) (pa_cons (pe_fld (pv 0) rfl) pa_nil)))), ?_⟩
  exact ⟨.ref a, rfl, a, CH, dx, _, .ref d, rfl, ha, A.cl, A.no _ (by decide), hl, d, o, kvs, rfl, hd, fun es ep it h1 h2 h3 => k es ep it h1 h2 h3⟩
end
end K27
end

section
set_option Elab.async false
set_option linter.all false
set_option maxRecDepth 100000
set_option maxHeartbeats 4000000
/-! hosts: == -/
namespace K27
open PySem PySem.Spec L2 KZ
abbrev sHE : Stmt := mem 16 7
instance : DecidableEq T3
  | .no, .no => isTrue rfl
  | .no, .so _ _ _ _ => isFalse fun z => nomatch z
  | .so _ _ _ _, .no => isFalse fun z => nomatch z
  | .so n x p v, .so m y q u => if h : n = m ∧ x = y ∧ p = q ∧ v = u then isTrue (by obtain ⟨rfl, rfl, rfl, rfl⟩ := h; rfl) else isFalse fun z => h (by cases z; exact ⟨rfl, rfl, rfl, rfl⟩)
def nmL : List Str := ["ann", "bob", "al"]
/-- what a letter may bring -/
def T3.Ok : T3 → Prop
  | .no => True
  | .so n x p v => 1 ≤ n ∧ n ≤ 3 ∧ x ∈ nmL ∧ 0 ≤ p ∧ p ≤ 4 ∧ -4 ≤ v ∧ v ≤ 4
def eqT (s t : T3) : Bool := PyData.eqv s.d1 t.d1 && (PyData.eqv s.d2 t.d2 && PyData.eqv s.d3 t.d3)
theorem eqv_tis (i j : Int) (x y : Str) : PyData.eqv (.tuple [.int i, .str x]) (.tuple [.int j, .str y]) = ((i == j) && (x == y)) := by
  show ((i == j) && ((x == y) && true)) = _
  rw [Bool.and_true]
theorem eqT_dec {s t : T3} (hs : s.Ok) (ht : t.Ok) : eqT s t = decide (s = t) := by
  cases s with
  | no =>
    cases t with
    | no => exact by decide +kernel
    | so n x p v =>
      unfold eqT T3.d1
      rw [eqv_tis, show ((T3.no.st.1 : Int) == (T3.so n x p v).st.1) = false from by
        have := ht.1
        show ((0 : Int) == (n : Int)) = false
        simpa using (by omega : ¬ ((0 : Int) = (n : Int))), Bool.false_and, Bool.false_and]
      exact (decide_eq_false (fun z => nomatch z)).symm
  | so n x p v =>
    cases t with
    | no =>
      unfold eqT T3.d1
      rw [eqv_tis, show (((T3.so n x p v).st.1 : Int) == T3.no.st.1) = false from by
        have := hs.1
        show ((n : Int) == (0 : Int)) = false
        simpa using (by omega : ¬ ((n : Int) = (0 : Int))), Bool.false_and, Bool.false_and]
      exact (decide_eq_false (fun z => nomatch z)).symm
    | so m y q u =>
      unfold eqT T3.d1
      rw [eqv_tis]
      show ((((n : Int) == (m : Int)) && (x == y)) && ((p == q) && (v == u))) = _
      rw [Bool.eq_iff_iff]
      simp only [Bool.and_eq_true, beq_iff_eq, decide_eq_true_eq, T3.so.injEq]
      constructor
      · rintro ⟨⟨a, b⟩, c, d⟩
        exact ⟨by omega, b, c, d⟩
      · rintro ⟨a, b, c, d⟩
        exact ⟨⟨by omega, b⟩, c, d⟩
theorem nm_ok : ∀ x ∈ nmL, PyData.canLay0 (.str x) = true := by decide +kernel
theorem T3.sh1 {t : T3} (h : t.Ok) : SeqAt.shaped t.d1 = true := by
  have c : PyData.canLay0 (.str t.st.2) = true := by
    cases t with
    | no => decide +kernel
    | so n x p v => exact nm_ok x h.2.2.1
  unfold SeqAt.shaped
  rw [show PyData.canLay0 t.d1 = (PyData.canLay0 (.int t.st.1) && (PyData.canLay0 (.str t.st.2) && true)) from rfl, c]
  rfl
theorem T3.sh2 (t : T3) : SeqAt.shaped t.d2 = true ∧ SeqAt.shaped t.d3 = true := by cases t <;> exact ⟨rfl, rfl⟩
theorem T3.nod (t : T3) : nod t.d1 = true ∧ nod t.d2 = true ∧ nod t.d3 = true := by cases t <;> exact ⟨rfl, rfl, rfl⟩
/-- what == of two kept things answers -/
theorem kt_rKE {K : PySem.W.Frag} {H : Hp} {s t : T3} {v u x v' u' x' : V} (hs : s.Ok) (ht : t.Ok) (h1 : Dv K H v s.d1) (h2 : Dv K H u s.d2) (h3 : Dv K H x s.d3) (g1 : Dv K H v' t.d1) (g2 : Dv K H u' t.d2) (g3 : Dv K H x' t.d3) : rKE K H [v, u, x] [v', u', x'] (decide (s = t)) := by
  rw [← eqT_dec hs ht]
  exact ⟨v, u, x, v', u', x', _, _, _, rfl, rfl, .dat (Dv.dp h1 s.nod.1) (Dv.dp g1 t.nod.1) (T3.sh1 hs) (T3.sh1 ht), .dat (Dv.dp h2 s.nod.2.1) (Dv.dp g2 t.nod.2.1) s.sh2.1 t.sh2.1, .dat (Dv.dp h3 s.nod.2.2) (Dv.dp g3 t.nod.2.2) s.sh2.2 t.sh2.2, rfl⟩
def DKt (K : PySem.W.Frag) (CK : Addr) : Anw := fun x y H r => ∃ a b s t, x = .ref a ∧ y = .ref b ∧ KtAt K CK H a s ∧ KtAt K CK H b t ∧ s.Ok ∧ t.Ok ∧ r = decide (s = t)
theorem kt_same {X : Cx} {pins : List (Addr × Obj)} {σ : L2.St} {H : Hp} {sh : Shared} (I : Inv X pins σ H sh) {CK a : Addr} {s t : T3} (h1 : KtAt X.K CK H a s) (h2 : KtAt X.K CK H a t) (hs : s.Ok) (ht : t.Ok) : s = t := by
  obtain ⟨dx, v, u, x, e1, a1, a2, a3⟩ := h1
  obtain ⟨dy, v', u', x', e2, b1, b2, b3⟩ := h2
  rw [e1] at e2
  cases e2
  obtain ⟨t1, rfl, k1⟩ := dv_tup2 a1
  obtain ⟨t2, ez, k2⟩ := dv_tup2 b1
  cases ez
  obtain ⟨us, r1, p1, _⟩ := I.tuple k1
  obtain ⟨vs, r2, p2, _⟩ := I.tuple k2
  obtain ⟨o1, g1, _, n1, e1'⟩ := p1
  obtain ⟨o2, g2, _, n2, e2'⟩ := p2
  rw [g1] at g2
  cases g2
  rw [e1'] at e2'
  have eu : us = vs := by
    have := Data.seq.inj e2'
    simpa using this.1
  subst eu
  have ex := Vals.inj r1 r2
  have x1 : s.st.1 = t.st.1 := V.int.inj (List.cons.inj ex).1
  have x2 : s.st.2 = t.st.2 := V.str.inj (List.cons.inj (List.cons.inj ex).2).1
  cases s with
  | no =>
    cases t with
    | no => rfl
    | so n x p v =>
      have := ht.1
      have z : (0 : Int) = (n : Int) := x1
      omega
  | so n x p v =>
    cases t with
    | no =>
      have := hs.1
      have z : (n : Int) = (0 : Int) := x1
      omega
    | so m y q w =>
      have z : (n : Int) = (m : Int) := x1
      have z2 : x = y := x2
      have nm : n = m := by omega
      subst nm
      subst z2
      cases a2
      cases b2
      cases a3
      cases b3
      rfl
theorem spE_kt {K : PySem.W.Frag} {CK : Addr} {H : Hp} {a b : Addr} {s t : T3} {Q : VK} {E : XK} (h1 : KtAt K CK H a s) (h2 : KtAt K CK H b t) (hs : s.Ok) (ht : t.Ok) (q : Q (.bl (decide (s = t))) H) : spEqC K CK kF (rKE K) [.ref a, .ref b] H Q E := by
  obtain ⟨dx, v, u, x, e1, a1, a2, a3⟩ := h1
  obtain ⟨dy, v', u', x', e2, b1, b2, b3⟩ := h2
  exact ⟨a, .ref b, dx, [v, u, x], rfl, e1, rfl, .inl ⟨b, dy, [v', u', x'], _, rfl, e2, rfl, kt_rKE hs ht a1 a2 a3 b1 b2 b3, q⟩⟩
theorem eqB_kt {X : Cx} {CK f : Addr} {fd : FuncData} (F : FnOk X.prog X.w X.K X.mg X.base CX0 1 f fd ["self", "other"] (spEqC X.K CK kF (rKE X.K))) (O : OwnEqF X.K CK f fd ["self", "other"]) : EqB X 1 (DKt X.K CK) := by
  intro A pins sh σ H x y u v r sb I rx ry d E Q q
  obtain ⟨a, b, s, t, rfl, rfl, h1, h2, hs, ht, rfl⟩ := d
  by_cases ab : a = b
  · subst ab
    have e := kt_same I h1 h2 hs ht
    subst e
    rw [decide_eq_true rfl] at q
    cases (show u = Value.ref a from rx)
    cases (show v = Value.ref a from ry)
    exact SeqAt.EqAt.same (A := A) (s := sh) (.ref a) X.prog X.w E _ (q sh I)
  · obtain ⟨dx, _, _, _, e1, _⟩ := id h1
    obtain ⟨dy, _, _, _, e2, _⟩ := id h2
    exact eqB_own F O A pins sh σ H (.ref a) (.ref b) u v _ sb I rx ry ⟨a, b, dx, dy, _, _, rfl, rfl, e1, e2, .inr ⟨ab, spE_kt h1 h2 hs ht ⟨rfl, rfl⟩⟩⟩ E Q q
def eK (f g : Int → T3) : Key → Bool
  | .inl i => decide (f i = g i)
  | .inr _ => false
/-- the stores of two hosts: what == answers -/
def eqF (f g : Int → T3) (ks ls : List Int) : Bool := ks.length == ls.length && ks.all fun k => decide (k ∈ ls) && decide (f k = g k)
theorem allIn_eqF {K : PySem.W.Frag} {CK : Addr} {H : Hp} {f g : Int → T3} {ka kb : List (Key × V)} {ks ls : List Int} (h1 : KvsAt K CK H f ka ks) (h2 : KvsAt K CK H g kb ls) :
    (ka.length == kb.length && allIn kb (eK f g) ka) = eqF f g ks ls := by
  unfold eqF
  rw [show ka.length = ks.length from Paired.length h1, show kb.length = ls.length from Paired.length h2]
  congr 1
  unfold allIn
  have h2' := h2
  clear h2
  unfold KvsAt at h1
  induction h1 with
  | nil => rfl
  | @cons p k ps js hh _ ih =>
    obtain ⟨e, b, e2, kt⟩ := hh
    rw [List.all_cons, List.all_cons, ih, e]
    congr 1
    rcases kvs_val h2' k with ⟨m, b', v, _⟩ | ⟨m, v⟩
    · rw [v, decide_eq_true m]
      rfl
    · rw [v, decide_eq_false m]
      rfl
/-- a dict is written, or locked: what is kept stands as before -/
theorem kt_upd {K : PySem.W.Frag} {CK : Addr} {H : Hp} {b d : Addr} {t : T3} {kvs : List (Key × V)} {o : HO} (hd : H d = some (.dK kvs)) (h : KtAt K CK H b t) : KtAt K CK (upd H d o) b t := by
  obtain ⟨dx, v, u, x, e, a1, a2, a3⟩ := h
  have ne : ∀ {c : Addr} {o' : HO}, H c = some o' → (∀ k, o' ≠ .dK k) → c ≠ d := fun e n z => by
    rw [z, hd] at e
    exact n _ (Option.some.inj e).symm
  obtain ⟨t1, rfl, k1⟩ := dv_tup2 a1
  refine ⟨dx, _, u, x, by rw [upd_ne (ne e fun _ z => nomatch z)]; exact e, .tup ?_ (.cons (.int _) (.cons (.str _) .nil)), ?_, ?_⟩
  · rcases k1 with (z | ⟨o', z⟩) | z
    · exact .inl (.inl (by rw [upd_ne (ne z fun _ y => nomatch y)]; exact z))
    · exact .inl (.inr ⟨o', by rw [upd_ne (ne z fun _ y => nomatch y)]; exact z⟩)
    · exact .inr z
  · cases t <;> cases a2 <;> first | exact .non | exact .int _
  · cases t <;> cases a3 <;> first | exact .non | exact .int _
theorem kvs_upd {K : PySem.W.Frag} {CK : Addr} {H : Hp} {d : Addr} {kvs : List (Key × V)} {o : HO} {f : Int → T3} {ka : List (Key × V)} {ks : List Int} (hd : H d = some (.dK kvs)) (h : KvsAt K CK H f ka ks) : KvsAt K CK (upd H d o) f ka ks := Paired.mapP h fun _ _ ⟨e, b, e2, k⟩ => ⟨e, b, e2, kt_upd hd k⟩
theorem dI {i j : Int} : decide (V.int i = V.int j) = decide (i = j) := by rw [dec_int, Bool.eq_iff_iff]; simp
def spHE (K : PySem.W.Frag) (CK CH : Addr) : Sp := fun vs H Q _ => ∃ a y d p c f kvs ks, vs = [.ref a, y] ∧ HostL K CK CH H a d p c f kvs ks ∧ H d = some (.dK kvs) ∧ (∀ k, (f k).Ok) ∧
  ((∃ b d2 p2 c2 g kb ls, y = .ref b ∧ HostL K CK CH H b d2 p2 c2 g kb ls ∧ H d2 = some (.dK kb) ∧ (∀ k, (g k).Ok) ∧ Q (.bl (decide (p = p2) && (decide (c = c2) && eqF f g ks ls))) H) ∨ (∃ t, TyX K H y t ∧ PySem.W.kitOne K t (.ref CH) = some false ∧ Q (.bl false) H))
section
variable {P : Program} {w : World} {K : PySem.W.Frag} {mg : Str → Option Value} {base : Heap} {CK CH fK : Addr} {dK_ : FuncData}
theorem scHE : FnScope ["self", "other"] ["self", "other"] (defScope sHE) := ⟨rfl, rfl, rfl, by decide +kernel, rfl, by decide +kernel, by decide +kernel⟩
theorem kvs_D {H : Hp} {f g : Int → T3} {ka kb : List (Key × V)} {ks ls : List Int} (h1 : KvsAt K CK H f ka ks) (h2 : KvsAt K CK H g kb ls) (o1 : ∀ k, (f k).Ok) (o2 : ∀ k, (g k).Ok) :
    ∀ p ∈ ka, ∀ u, valV kb p.1 = some u → DKt K CK p.2 u H ((eK f g) p.1) := by
  intro p hp u hu
  obtain ⟨i, hi, e⟩ := List.getElem_of_mem hp
  obtain ⟨k, _, ek, b, eb, kt⟩ := paired_get h1 (show ka[i]? = some p from by rw [List.getElem?_eq_getElem hi, e])
  rw [ek] at hu ⊢
  rcases kvs_val h2 k with ⟨_, b', v, kt'⟩ | ⟨_, v⟩
  · rw [v] at hu
    cases hu
    exact ⟨b, b', f k, g k, eb, rfl, kt, kt', o1 k, o2 k, rfl⟩
  · rw [v] at hu
    cases hu
theorem ok_he {fE : Addr} {fd : FuncData} {q : Str} (F : Fun K "__eq__" q sHE fE fd) (A : ClsF K mg "Host" CH hF) (T : B0 mg) (FK : FnOk P w K mg base CX0 1 fK dK_ ["self", "other"] (spEqC K CK kF (rKE K))) (O : OwnEqF K CK fK dK_ ["self", "other"]) : FnOk P w K mg base CX0 3 fE fd ["self", "other"] (spHE K CK CH) := by
  refine F.ok scHE (fun vs H Q E h => ?_) (fun cdv A' outer s H vs Q E hr h => ?_)
  · obtain ⟨a, y, d, p, c, f, kvs, ks, rfl, _⟩ := h
    rfl
  · obtain ⟨a, y, d, p, c, f, kvs, ks, rfl, hh, hd, ok, h⟩ := h
    have EK : EqB (cxOf CX0 P w K mg base ["self", "other"] q (defScope sHE) fE cdv A' outer s H E).nox 1 (DKt K CK) := eqB_kt FK O
    have no : ∀ x ∈ hF, NoAttr K CH x := A.no
    obtain ⟨dx, ha⟩ := hh.at_
    rcases h with ⟨b, d2, p2, c2, g, kb, ls, rfl, hh2, hd2, ok2, q⟩ | ⟨t, ty, k, q⟩
    · obtain ⟨dy, hb⟩ := hh2.at_
      by_cases e : d = d2
      · subst e
        rw [hd] at hd2
        cases hd2
        refine ⟨_, (pss_cons (ps_if (pt_not (pt_val (pe_callB (call_isiQ K) (by rfl) T.isi (by decide +kernel) (pa_cons (pv 1) (pa_cons (pe_glob (v := .ref CH) (by rfl) A.g rfl) pa_nil)))))
(pss_one (ps_ret pe_bl))
pss_nil)
(pss_one (ps_ret (pe_and (pe_cmpR op_eq (pe_fldK K (pv 0) rfl) (pe_fldK K (pv 1) rfl) (nomark _)) (pe_and (pe_cmpR op_eq (pe_fldK K (pv 0) rfl) (pe_fldK K (pv 1) rfl) (nomark _)) (pe_one (pe_lock (pe_cmpR (op_eqDL EK hr) (pe_fldK K (pv 0) rfl) (pe_fldK K (pv 1) rfl) (nomark _))))))))), ?_⟩
        refine ⟨_, rfl, .ref b, .ref CH, _, _, true, rfl, .own CH, .base (A.ty _ _ _ _ hb), A.me, _, rfl, ?_⟩
        refine iteF ?_
        refine ⟨.ref a, rfl, a, CH, dx, _, .int p, rfl, ha, A.cl, no _ (by decide), rfl, .ref b, rfl, b, CH, dy, _, .int p2, rfl, hb, A.cl, no _ (by decide), rfl, ?_⟩
        refine ⟨rfl, _, rfl, ?_⟩
        rw [dI]
        cases h1 : decide (p = p2) with
        | false =>
          rw [h1] at q
          exact iteF q
        | true =>
          rw [h1] at q
          refine iteT ⟨.ref a, rfl, a, CH, dx, _, .int c, rfl, ha, A.cl, no _ (by decide), rfl, .ref b, rfl, b, CH, dy, _, .int c2, rfl, hb, A.cl, no _ (by decide), rfl, rfl, _, rfl, ?_⟩
          rw [dI]
          cases h2 : decide (c = c2) with
          | false =>
            rw [h2] at q
            exact iteF q
          | true =>
            rw [h2] at q
            have na : ∀ {x : Addr} {C' dz : Addr} {fs : List (Str × V)}, H x = some (.ins C' dz fs) → ∀ o, upd H d o x = some (.ins C' dz fs) := fun e o => by
              rw [upd_ne (fun z => by rw [z, hd] at e; cases e)]
              exact e
            refine iteT ⟨d, _, hd, True.intro, fun od => ⟨.ref a, rfl, a, CH, dx, _, .ref d, rfl, na ha _, A.cl, no _ (by decide), rfl, .ref b, rfl, b, CH, dy, _, .ref d, rfl, na hb _, A.cl, no _ (by decide), rfl, ?_⟩⟩
            refine ⟨d, d, od, od, kvs, kvs, eK f g, rfl, rfl, upd_same, upd_same, kvs_D (kvs_upd hd hh.kv) (kvs_upd hd hh2.kv) ok ok2, upd_same, ?_⟩
            rw [allIn_eqF hh.kv hh2.kv, upd_upd]
            have hH : upd H d (.dK kvs) = H := by
              funext x
              by_cases z : x = d
              · rw [z, upd_same, hd]
              · rw [upd_ne z]
            rw [hH]
            exact q
      · refine ⟨_, (pss_cons (ps_if (pt_not (pt_val (pe_callB (call_isiQ K) (by rfl) T.isi (by decide +kernel) (pa_cons (pv 1) (pa_cons (pe_glob (v := .ref CH) (by rfl) A.g rfl) pa_nil)))))
(pss_one (ps_ret pe_bl))
pss_nil)
(pss_one (ps_ret (pe_and (pe_cmpR op_eq (pe_fldK K (pv 0) rfl) (pe_fldK K (pv 1) rfl) (nomark _)) (pe_and (pe_cmpR op_eq (pe_fldK K (pv 0) rfl) (pe_fldK K (pv 1) rfl) (nomark _)) (pe_one (pe_lock (pe_lock (pe_cmpR (op_eqDL EK hr) (pe_fldK K (pv 0) rfl) (pe_fldK K (pv 1) rfl) (nomark _)))))))))), ?_⟩
        refine ⟨_, rfl, .ref b, .ref CH, _, _, true, rfl, .own CH, .base (A.ty _ _ _ _ hb), A.me, _, rfl, ?_⟩
        refine iteF ?_
        refine ⟨.ref a, rfl, a, CH, dx, _, .int p, rfl, ha, A.cl, no _ (by decide), rfl, .ref b, rfl, b, CH, dy, _, .int p2, rfl, hb, A.cl, no _ (by decide), rfl, ?_⟩
        refine ⟨rfl, _, rfl, ?_⟩
        rw [dI]
        cases h1 : decide (p = p2) with
        | false =>
          rw [h1] at q
          exact iteF q
        | true =>
          rw [h1] at q
          refine iteT ⟨.ref a, rfl, a, CH, dx, _, .int c, rfl, ha, A.cl, no _ (by decide), rfl, .ref b, rfl, b, CH, dy, _, .int c2, rfl, hb, A.cl, no _ (by decide), rfl, rfl, _, rfl, ?_⟩
          rw [dI]
          cases h2 : decide (c = c2) with
          | false =>
            rw [h2] at q
            exact iteF q
          | true =>
            rw [h2] at q
            have na : ∀ {x : Addr} {C' dz : Addr} {fs : List (Str × V)} {H1 : Hp} {z : Addr} {kk : List (Key × V)}, H1 z = some (.dK kk) → H1 x = some (.ins C' dz fs) → ∀ o, upd H1 z o x = some (.ins C' dz fs) := fun ed e o => by
              rw [upd_ne (fun z => by rw [z, ed] at e; cases e)]
              exact e
            have hd2' : ∀ o, upd H d o d2 = some (.dK kb) := fun o => by rw [upd_ne (Ne.symm e)]; exact hd2
            refine iteT ⟨d, _, hd, True.intro, fun od => ⟨d2, _, hd2' _, True.intro, fun oe => ⟨.ref a, rfl, a, CH, dx, _, .ref d, rfl, na (hd2' _) (na hd ha _) _, A.cl, no _ (by decide), rfl, .ref b, rfl, b, CH, dy, _, .ref d2, rfl, na (hd2' _) (na hd hb _) _, A.cl, no _ (by decide), rfl, ?_⟩⟩⟩
            refine ⟨d, d2, od, oe, kvs, kb, eK f g, rfl, rfl, by rw [upd_ne e, upd_same], upd_same, kvs_D (kvs_upd (hd2' _) (kvs_upd hd hh.kv)) (kvs_upd (hd2' _) (kvs_upd hd hh2.kv)) ok ok2, upd_same, ?_⟩
            rw [allIn_eqF hh.kv hh2.kv, upd_upd]
            have hH2 : upd (upd H d (.frz od (.dK kvs))) d2 (.dK kb) = upd H d (.frz od (.dK kvs)) := by
              funext x
              by_cases z : x = d2
              · rw [z, upd_same, hd2' _]
              · rw [upd_ne z]
            rw [hH2]
            refine ⟨upd_same, ?_⟩
            have hH : upd (upd H d (.frz od (.dK kvs))) d (.dK kvs) = H := by
              rw [upd_upd]
              funext x
              by_cases z : x = d
              · rw [z, upd_same, hd]
              · rw [upd_ne z]
            rw [hH]
            exact q
    · refine ⟨_, (pss_cons (ps_if (pt_not (pt_val (pe_callB (call_isiQ K) (by rfl) T.isi (by decide +kernel) (pa_cons (pv 1) (pa_cons (pe_glob (v := .ref CH) (by rfl) A.g rfl) pa_nil)))))
(pss_one (ps_ret pe_bl))
pss_nil)
(pss_one (ps_ret (pe_and (pe_cmpR op_eq (pe_fldK K (pv 0) rfl) (pe_fldK K (pv 1) rfl) (nomark _)) (pe_and (pe_cmpR op_eq (pe_fldK K (pv 0) rfl) (pe_fldK K (pv 1) rfl) (nomark _)) (pe_one (pe_lock (pe_cmpR (op_eqDL EK hr) (pe_fldK K (pv 0) rfl) (pe_fldK K (pv 1) rfl) (nomark _))))))))), ?_⟩
      refine ⟨_, rfl, y, .ref CH, _, _, false, rfl, .own CH, ty, k, _, rfl, ?_⟩
      exact iteT q
end
end K27
end

section
set_option Elab.async false
set_option linter.all false
set_option maxRecDepth 100000
set_option maxHeartbeats 4000000
/-! o.m(k = v, ..); a promise that lets nothing out -/
namespace KZ
open PySem PySem.Spec PyProof.Rows L2
section
variable {X : Cx} {cx : CXT} {k : Nat} {f C : Addr} {fd : FuncData} {ps ks : List Str} {sp : Sp} {E : XK} {m : Str} {o : Expr} {ta : TE} {apos pos : Pos} {kws : List Keyword} {tk : TA} {g : List Value → List Value → List Value} {gV : List V → List V → List V}
def tMethK (C : Addr) (m : Str) (sp : Sp) (gV : List V → List V → List V) (E : XK) (ta : TE) (tk : TA) : TE := fun σ H Q => ta σ H fun x H1 => ∃ a dx fs, x = .ref a ∧ H1 a = some (.ins C dx fs) ∧ fs.lookup m = none ∧ tk σ H1 fun zs H2 => sp (gV [x] zs) H2 Q E
theorem pe_methK0 {pl : Sem Bool} (he : PE X o ta) (c : Cls X.K C) (hm : Meth X.K C m f) (F : FnOk X.prog X.w X.K X.mg X.base cx k f fd ps sp) (hr : Room k X.A) (hb : KBinds X.K fd ps ks g gV) (hx : Passes cx X E) (hkw : PK X kws tk)
    (hall : (backToKw pos (keywordEach kws X.env)).all (·.1.isSome) = true := by rfl) (hks : (backToKw pos (keywordEach kws X.env)).filterMap (·.1) = ks := by rfl)
    (hpl : ((backTo pos (starEach [] X.env)).any (·.1) || (backToKw pos (keywordEach kws X.env)).any (·.1.isNone)) = false := by rfl)
    (ht : eval (.Call (.Attribute o m apos) [] kws pos) X.env = (do
      let ov ← eval o X.env
      standAt apos.atName
      let (f, first) ← holding [ov] (getMethod ov m pl)
      callWith pos f first (backTo pos (starEach [] X.env)) (backToKw pos (keywordEach kws X.env))) := by rfl) :
    PE X (.Call (.Attribute o m apos) [] kws pos) (tMethK C m sp gV E ta tk) := by
  refine ⟨fun pins s σ H Q I h => ?_⟩
  refine PySem.W.methodCall_KW (pl := pl) (thn (he.run pins s σ H _ I h) fun u s1 ⟨x, H1, I1, rx, a, dx, fs, ex, ea, l, q⟩ => ?_) ht
  subst ex
  obtain rfl : u = Value.ref a := rx
  refine getmeth_ok I1 ea c hm l ?_
  refine PySem.W.callWith_KW0 (first := [.ref a]) (h₀ := X.base) I.ok.mod.kin hm.kp hall (thn (hkw.run pos pins s1 σ H1 _ I1 q) fun ws s2 ⟨zs, H2, I2, rz, q2⟩ => ⟨I2.kIn, ?_⟩) hpl
  rw [hks]
  exact run_fnk (us := [.ref a]) (vs := [.ref a]) F hr hb hx I2 (.cons rfl .nil) rz q2
end
section
variable {P : Program} {w : World} {K : PySem.W.Frag} {mg : Str → Option Value} {base : Heap} {k : Nat} {f : Addr} {fd : FuncData} {ps : List Str} {sp : Sp}
/-- where nothing is let out -/
theorem FnOk.x0 (F : FnOk P w K mg base (L2.CX P w) k f fd ps sp) : FnOk P w K mg base CX0 k f fd ps (fun vs H Q _ => sp vs H Q fun _ _ _ => False) :=
  ⟨fun vs H Q E h => F.len vs H Q _ h, fun A outer s H args us vs Q E hr he hb hv hs => codeAny_mono (F.run A outer s H args us vs Q _ hr he hb hv hs) fun r s' hq => by
    cases r with
    | error e =>
      obtain ⟨_, _, _, _, _, _, _, _, _, _, _, _, h⟩ := hq
      exact h.elim
    | ok fl => cases fl <;> exact hq⟩
end
end KZ
end

section
set_option Elab.async false
set_option linter.all false
set_option maxRecDepth 100000
set_option maxHeartbeats 4000000
/-! a host with another store -/
namespace K27
open PySem PySem.Spec L2 KZ
abbrev sHW : Stmt := top 17
def spHW (K : PySem.W.Frag) (CK CH : Addr) : Sp := fun vs H Q _ => ∃ h k p c0 c f0 f d0 kvs0 ks0 kvs ks, vs = [.ref h, .int c, .ref k] ∧ HostL K CK CH H h d0 p c0 f0 kvs0 ks0 ∧ inPl p ∧ H k = some (.dK kvs) ∧ KvsAt K CK H f kvs ks ∧ ks.Nodup ∧ ks.length ≤ 1000 ∧ (∀ j, j ∈ ks ↔ f j ≠ .no) ∧
  ∀ ks' a d kvs' H', ks'.Perm ks → ks'.Pairwise (· ≤ ·) → Same H H' → HostL K CK CH H' a d p c f kvs' ks' → H' d = some (.dK kvs') → H d = none → Q (.ref a) H'
/-- putK of a key that is not there -/
theorem putK_new {kvs : List (Key × V)} {k : Key} {v : V} (h : valV kvs k = none) : putK kvs k v = kvs ++ [(k, v)] := by
  unfold putK
  rw [if_neg]
  intro z
  obtain ⟨p, m, e⟩ := List.any_eq_true.mp z
  have e' : p.1 = k := of_decide_eq_true e
  clear z e
  induction kvs with
  | nil => cases m
  | cons q r ih =>
    by_cases hq : q.1 = k
    · rw [valV_pos hq] at h
      cases h
    · rw [valV_neg hq] at h
      rcases List.mem_cons.mp m with rfl | m
      · exact hq e'
      · exact ih h m
theorem kvs_keys {K : PySem.W.Frag} {CK : Addr} {H : Hp} {f : Int → T3} {kvs : List (Key × V)} {ks : List Int} (h : KvsAt K CK H f kvs ks) : (kvs.map fun kv => kV kv.1) = ks.map V.int := by
  unfold KvsAt at h
  induction h with
  | nil => rfl
  | @cons a b l m hab _ ih =>
    rw [List.map_cons, List.map_cons, ih, hab.1]
    rfl
section
variable {P : Program} {w : World} {K : PySem.W.Frag} {mg : Str → Option Value} {base : Heap} {CK CH fI cB : Addr} {dI : FuncData}
theorem scHW : FnScope ["host", "closed", "kepts", "made", "key"] ["host", "closed", "kepts"] (defScope sHW) := ⟨rfl, rfl, rfl, by decide +kernel, rfl, by decide +kernel, by decide +kernel⟩
theorem ok_hw {f : Addr} {fd : FuncData} (F : Fun K "host_with" "host_with" sHW f fd) (AH : ClsF K mg "Host" CH hF) (T : B1 mg) (MK : Mk K CH fI) (GI : FnOk P w K mg base (L2.CX P w) 7 fI dI ["self", "place"] (spHI K CH cB)) (bI : Binds K dI ["self", "place"] []) : FnOk P w K mg base CX0 9 f fd ["host", "closed", "kepts"] (spHW K CK CH) := by
  have GI0 := KZ.FnOk.x0 GI
  refine F.ok scHW (fun vs H Q E h => ?_) (fun cdv A' outer s H vs Q E hr h => ?_)
  · obtain ⟨h, k, p, c0, c, f0, f, d0, kvs0, ks0, kvs, ks, rfl, _⟩ := h
    rfl
  · obtain ⟨h, k, p, c0, c, f0, f, d0, kvs0, ks0, kvs, ks, rfl, hh, hp, hk, kv, nd, hz, iff, q⟩ := h
    have hr7 : Room 8 _ := hr
    have no : ∀ x ∈ hF, NoAttr K CH x := AH.no
    obtain ⟨dxh, hah⟩ := hh.at_
    refine ⟨_, (pss_cons (ps_set (i := 3) scHW.nd rfl (Or.inl rfl) (pe_make MK GI0 hr7 (by rfl) AH.g bI .nil pass0 (pa_cons (pe_fldK K (pv 0) rfl) pa_nil)))
(pss_cons (ps_fld (pv 3) (pv 1) rfl)
(pss_cons (ps_fld (pv 3) (pe_dc (own := [("key", 4)]) (g := gName 4) (tt := tYes) (by rfl) scHW.nd (pi_list (pe_callB cr_sortedI (by rfl) T.sorted (by decide +kernel) (pa_cons (pe_callTy (call_list_dK rfl) (by rfl) T.list (by decide +kernel) (pa_cons (pv 2) pa_nil)) pa_nil))) (blkOk_by (own := [("key", 4)]) (N := ["host", "closed", "kepts", "made", "key"]) (sc := defScope sHW) (by decide +kernel)) (fun _ _ _ _ _ => pg_name (i := 4) scHW.nd rfl (Or.inl rfl)) (fun _ _ _ _ _ => pts_nil) (fun _ _ _ _ _ => pv 4) (fun _ _ _ _ _ => pe_dget (hu_of hr) (pv 2) (pv 4) (fun _ _ => rfl))) rfl)
(pss_one (ps_ret (pv 3)))))), ?_⟩
    refine ⟨.ref h, rfl, h, CH, dxh, _, .int p, rfl, hah, AH.cl, no _ (by decide), rfl, fun x dx hx hdx ne => ?_⟩
    have s0 : Same H (upd (upd H dx (.own x)) x (.ins CH dx [])) := new2 hx hdx ne
    refine ⟨x, .int p, .int p, dx, rfl, .int p, trivial, upd_same, fun i ei hi dk H1 hdk bt h1 h2 => ?_, fun z => absurd (within_pl hp) (by rw [z]; exact Bool.false_ne_true)⟩
    cases ei
    refine ⟨rfl, ?_⟩
    refine ⟨_, rfl, .ref x, rfl, x, CH, dx, _, rfl, h1, AH.cl, no _ (by decide), (show 3 < 1000 by decide), ?_⟩
    have hnx : ∀ b o, H b = some o → b ≠ x := fun b o e => ne_of_none e hx
    have s1 : Same H H1 := fun b o e => bt b o (hnx b o e) (s0 _ _ e)
    generalize eH2 : upd H1 x (.ins CH dx (putF "closed" (.int c) [("place", .int p), ("closed", .int (-1)), ("_kepts", .ref dk)])) = H2
    have h2x : H2 x = some (.ins CH dx [("place", .int p), ("closed", .int c), ("_kepts", .ref dk)]) := by
      rw [← eH2, upd_same]
      rfl
    have s2 : Same H H2 := fun b o e => by
      rw [← eH2, upd_ne (hnx b o e)]
      exact s1 _ _ e
    have ekeys := kvs_keys kv
    refine ⟨_, rfl, k, kvs, rfl, s2 _ _ hk, fun l hl => ?_⟩
    rw [ekeys]
    refine ⟨l, ks, rfl, SqL.of upd_same, fun ks' l2 pm pw hl2 => ⟨l2, rfl, ⟨_, SqL.of upd_same⟩, fun D hD => ?_⟩⟩
    have s3 : Same H2 (upd (upd H2 l (.lst (ks.map V.int))) l2 (.lst (ks'.map V.int))) := (same_new hl).trans (same_new hl2)
    have hl2' : (upd (upd H2 l (.lst (ks.map V.int))) l2 (.lst (ks'.map V.int))) l2 = some (.lst (ks'.map V.int)) := upd_same
    generalize upd (upd H2 l (.lst (ks.map V.int))) l2 (.lst (ks'.map V.int)) = H4 at s3 hl2' hD ⊢
    have nd' : ks'.Nodup := pm.nodup_iff.mpr nd
    have lz : ks'.length ≤ 1000 := by rw [pm.length_eq]; exact hz
    have neD : ∀ b o, H4 b = some o → b ≠ D := fun b o e z => by rw [z, hD] at e; cases e
    have sH4 : Same H H4 := s2.trans s3
    refine dc_it (walk_list (K := K) (a := l2) (xs := ks'.map V.int)) (fun i H' => (∀ b o, b ≠ D → H4 b = some o → H' b = some o) ∧ ∃ kv', H' D = some (.dK kv') ∧ KvsAt K CK H f kv' (ks'.take i)) ⟨fun b o hb e => by rw [upd_ne hb]; exact e, [], upd_same, .nil⟩ (fun i H' _ c => SqL.of (c.1 _ _ (neD _ _ hl2') hl2')) ?_ ?_
    · rintro i y H5 H6 hi ⟨c1, kv', c2, c3⟩ ⟨rfl, hy⟩
      have il : i < ks'.length := by rwa [List.length_map] at hi
      have ey : y = .int ks'[i] := by
        rw [List.getElem?_map, List.getElem?_eq_getElem il] at hy
        exact (Option.some.inj hy).symm
      subst ey
      have m1 : ks'[i] ∈ ks := pm.mem_iff.mp (List.getElem_mem il)
      rcases kvs_val kv ks'[i] with ⟨_, b, hv, kt⟩ | ⟨m, _⟩
      · refine ⟨rfl, yes_go ?_⟩
        refine ⟨_, rfl, .ref k, rfl, _, rfl, k, .ref b, rfl, .inl ⟨kvs, Sum.inl ks'[i], .inl (c1 _ _ (neD _ _ (sH4 _ _ hk)) (sH4 _ _ hk)), rfl, hv.symm⟩, ?_⟩
        have nt : ks'[i] ∉ ks'.take i := fun m => by
          have e : ks' = ks'.take i ++ ks'.drop i := (List.take_append_drop i ks').symm
          rw [List.drop_eq_getElem_cons il] at e
          have nd2 := nd'
          rw [e] at nd2
          exact (List.nodup_append.mp nd2).2.2 _ m _ List.mem_cons_self rfl
        have hn : valV kv' (Sum.inl ks'[i]) = none := by
          rcases kvs_val c3 ks'[i] with ⟨m, _⟩ | ⟨_, z⟩
          · exact absurd m nt
          · exact z
        refine ⟨kv', Sum.inl ks'[i], rfl, c2, ?_, fun b' o hb e => by rw [upd_ne hb]; exact c1 b' o hb e, kv' ++ [(Sum.inl ks'[i], .ref b)], by rw [upd_same, putK_new hn], ?_⟩
        · rw [show kv'.length = (ks'.take i).length from Paired.length c3, List.length_take]
          exact Nat.lt_of_le_of_lt (Nat.min_le_right _ _) (Nat.lt_of_le_of_lt lz (by decide))
        · rw [List.take_add_one, List.getElem?_eq_getElem il]
          exact Paired.snoc c3 ⟨rfl, b, rfl, kt⟩
      · exact absurd m1 m
    · rintro H5 ⟨c1, kv', c2, c3⟩
      rw [List.length_map, List.take_length] at c3
      have h5x := c1 _ _ (neD _ _ (s3 _ _ h2x)) (s3 _ _ h2x)
      refine ⟨_, rfl, x, CH, dx, _, rfl, h5x, AH.cl, no _ (by decide), (show 3 < 1000 by decide), ?_⟩
      have xD : x ≠ D := neD _ _ (s3 _ _ h2x)
      have sF : Same H (upd H5 x (.ins CH dx (putF "_kepts" (.ref D) [("place", .int p), ("closed", .int c), ("_kepts", .ref dk)]))) := fun b o e => by
        rw [upd_ne (hnx b o e)]
        exact c1 b o (neD _ _ (sH4 _ _ e)) (sH4 _ _ e)
      refine ⟨_, rfl, q ks' x D kv' _ pm pw sF ⟨⟨dx, ?_⟩, .inl ?_, c3.mono sF, fun j => ?_⟩ ?_ (sH4.free hD)⟩
      · rw [upd_same]
        rfl
      · rw [upd_ne (Ne.symm xD)]
        exact c2
      · rw [pm.mem_iff]
        exact iff j
      · rw [upd_ne (Ne.symm xD)]
        exact c2
end
end K27
end

section
set_option Elab.async false
set_option linter.all false
set_option maxRecDepth 100000
set_option maxHeartbeats 4000000
/-! y = {k: v for .. in ..}, None among its keys, y a local name -/
namespace KZ
open PySem PySem.Spec PyProof.Rows L2
section
variable {X : Cx}
/-- the dict's making, whatever is done with it before the block is left -/
theorem dcn_core {pins : List (Addr × Obj)} {s : Shared} {σ : L2.St} {H : Hp} {Q : VK} {kx vx tg iter : Expr} {ifs : List Expr} {scope : Scope} {own : List (Str × Nat)} {pos pos' : Pos} {wi : TI} {g : TG} {tt : TT} {tk tv : TE} {use : Option (Value → Sem Unit)} {Qf : Value → Shared → Prop} (calm : X.calm = true) (nd : X.N.Nodup) (I : Inv X pins σ H s) (it_ : PI X tg iter wi) (blk : BlkOk X.N X.env.scope scope own)
    (p1 : ∀ (s : Shared) (H : Hp) (C : Addr) (cl : List (Str × Addr)) (fp : List Addr), PG (X.blk s H scope (compEnvC scope cl C X.env) fp) tg g)
    (p2 : ∀ (s : Shared) (H : Hp) (C : Addr) (cl : List (Str × Addr)) (fp : List Addr), PTs (X.blk s H scope (compEnvC scope cl C X.env) fp) ifs tt)
    (p3 : ∀ (s : Shared) (H : Hp) (C : Addr) (cl : List (Str × Addr)) (fp : List Addr), PE (X.blk s H scope (compEnvC scope cl C X.env) fp) kx tk)
    (p4 : ∀ (s : Shared) (H : Hp) (C : Addr) (cl : List (Str × Addr)) (fp : List Addr), PE (X.blk s H scope (compEnvC scope cl C X.env) fp) vx tv)
    (fold : ∀ x, foldedSetIterable iter X.env x = pure x) (hQ : tDn X wi g tt tk tv (own.map (·.2)) σ H Q)
    (fin : ∀ D C s' m H', Inv X pins σ H' s' → Q (.ref D) H' → s'.heap.Ns C m → FpOk X pins H' C → compPost (model X.prog X.w) X.A X.xe use Qf (.ref D) C (.ok .next) s') :
    wpAny (model X.prog X.w) X.A (comprehension (.DictComp kx vx [⟨tg, iter, ifs, 0⟩] scope pos) scope X.env pos' newDict false (eval iter X.env) use) Qf X.xe s := by
  have free_ : ∀ y ∈ scope.names, y.2 = .free → ∃ c, X.env.cells.lookup y.1 = some c := by
    intro y hy e
    exact I.ok.has _ (blk.free y hy e)
  refine wpAny_comprehension_free (use := use) rfl fold (closure_ok free_) blk.kind (fun y hy e => by rw [blk.uniq y hy, e]) (thn (it_.run pins s σ H _ I hQ) fun xv s1 y1 => thn y1 fun itv s2 y2 => ?_)
  obtain ⟨it, fp, tn, J, H2, rfl, I2, T, st2, f2, q⟩ := y2
  refine wpAny_newObj_type (newEnv_comp ?_)
  generalize eD : s2.heap.objs.size = D
  obtain ⟨W, ⟨m0, w0⟩, turn⟩ := q D (I2.hok.fresh (Nat.le_of_eq eD))
  generalize e3 : ({ s2 with heap := s2.heap.push { cls := .type "dict", data := .dict #[] } } : Shared) = s3
  have heap3 : s3.heap = s2.heap.push { cls := .type "dict", data := .dict #[] } := e3 ▸ rfl
  generalize eH : upd H2 D (DN X.prog X.w D []) = H3 at w0
  have I3 : Inv X pins σ H3 s3 := by
    subst e3 eH eD
    exact I2.laid (t' := s2.toks) (fun b o e => Heap.get?_push_of_some _ e) (Nat.le_refl _) (dn_empty s2.heap I2.big)
  have low : ∀ b ∈ fp, b < s2.heap.objs.size := by
    intro b hb
    obtain ⟨o, e, _⟩ := T.obj _ _ st2 b hb
    exact Heap.lt_size e
  have f3 : ∀ b ∈ fp, FpOk X pins H3 b ∧ b < s3.heap.objs.size := by
    intro b hb
    have l := low b hb
    have z := f2 b hb
    refine ⟨⟨?_, z.2⟩, ?_⟩
    · rw [← eH, upd_ne (fun y => Nat.lt_irrefl _ (by rw [y, eD] at l; exact l))]
      exact z.1
    · rw [heap3, Heap.size_push]
      exact Nat.lt_succ_of_lt l
  have st3 : tn 0 s3.heap := T.keep _ _ _ st2 fun b _ o e => heap3 ▸ Heap.get?_push_of_some _ e
  have none3 : ∀ b ∈ fp, H3 b = none := fun b hb => (f3 b hb).1.1
  have I4 := block_start I3 blk nd f3
  generalize ecl : cellsFrom (s3.heap.objs.size + 1) scope.names (cloFrom X.env.cells scope.names []) = cl at I4
  have g1 := p1 s3 H3 s3.heap.objs.size cl fp
  have g2 := p2 s3 H3 s3.heap.objs.size cl fp
  have g3 := p3 s3 H3 s3.heap.objs.size cl fp
  have g4 := p4 s3 H3 s3.heap.objs.size cl fp
  have eL : (compEnvC scope cl s3.heap.objs.size X.env).locals = s3.heap.objs.size := rfl
  generalize eE : compEnvC scope cl s3.heap.objs.size X.env = env at I4 g1 g2 g3 g4 eL
  generalize e4 : ({ s3 with heap := pushCells (s3.heap.push { cls := .type "dict", data := .dict #[] }) scope.names } : Shared) = s4 at I4
  have st4 : tn 0 s4.heap := T.keep _ _ _ st3 fun b _ o e => e4 ▸ pushCells_keeps _ _ _ _ (Heap.get?_push_of_some _ e)
  let B := X.blk s3 H3 scope env fp
  have held : ∀ {σ' : L2.St} {H' : Hp} {s' : Shared}, Inv B [] σ' H' s' → (∀ b ∈ fp, H' b = none) → ∀ b ∈ fp, FpOk B [] H' b := by
    intro σ' H' s' J' n b hb
    have z := J'.ok.exf b hb
    exact ⟨n b hb, z.1, J'.ok.exfs b hb, .inl hb, fun x c e => z.2 x c e, fun p hp => nomatch (show p ∈ ([] : List (Addr × Obj)) from hp)⟩
  have post : codeAny (model X.prog X.w) X.A (.compLoop (.DictComp kx vx [⟨tg, iter, ifs, 0⟩] scope pos) 0 (.ref it) (.ref D) env) (compPost (model X.prog X.w) X.A X.xe use Qf (.ref D) s3.heap.objs.size) s4 := by
    refine compLoop_anyD (fun n s' => ∃ i H', Inv B [] (wipe σ (own.map (·.2))) H' s' ∧ tn i s'.heap ∧ (∀ b ∈ fp, H' b = none) ∧ W i n H') ?_ m0 ⟨0, H3, I4, st4, none3, w0⟩
    rintro n s5 ⟨i, H5, I5, st5, n5, w5⟩
    rcases turn i n H5 w5 with ⟨stop, qq⟩ | ⟨go, Nx, hNx, step⟩
    · refine thnF (T.done B rfl rfl rfl calm i [] s5 _ H5 (fun _ _ => False) I5 (held I5 n5) st5 stop) fun r s6 y6 => ?_
      obtain ⟨rfl, I6⟩ := y6
      have I7 : Inv X pins σ H5 s6 := by
        refine I3.call' (ch := fp) I6.os I6.base I6.hok I6.bare fun b hb => ?_
        have z := (f3 b hb).1.2
        exact ⟨z.2.2.1, z.1, z.2.2.2.1, z.2.2.2.2⟩
      have nC : H5 s3.heap.objs.size = none := eL ▸ I6.free
      obtain ⟨m, hn, _⟩ := I6.loc
      exact fin D s3.heap.objs.size s6 m H5 I7 qq (eL ▸ hn) (I3.fpOk (Nat.le_refl _) nC)
    · refine thnF (T.item B rfl rfl rfl calm i [] s5 _ H5 (fun _ _ => False) I5 (held I5 n5) st5 go) fun r s6 y6 => ?_
      obtain ⟨u, rfl, y6⟩ := y6
      refine thnF y6 fun _ s7 y7 => ?_
      obtain ⟨x, H7, I7, r7, yl, st7, n7⟩ := y7
      have P7 := I7.pinned (held I7 n7) (T.obj _ _ st7)
      refine thnF (g1.run _ s7 _ H7 x u _ P7 r7 (step x H7 yl)) fun _ s8 y8 => ?_
      obtain ⟨σ8, H8, I8, w8, y8⟩ := y8
      refine thnF (g2.run _ s8 σ8 H8 _ I8 y8) fun b s9 y9 => ?_
      obtain ⟨H9, I9, y9⟩ := y9
      have len8 : (wipe σ (own.map (·.2))).length = σ8.length := by rw [← w8, wipe_length]
      have next : ∀ {s' : Shared} {H' : Hp}, Inv B ([] ++ pinsAt fp s7.heap) σ8 H' s' → Nx H' → ∃ m, m < n ∧ ∃ i H', Inv B [] (wipe σ (own.map (·.2))) H' s' ∧ tn i s'.heap ∧ (∀ b ∈ fp, H' b = none) ∧ W i m H' := by
        intro s' H' I' nx
        obtain ⟨k, hk, w'⟩ := hNx H' nx
        have pin : ∀ b ∈ fp, ∀ o, s7.heap.get? b = some o → s'.heap.get? b = some o ∧ H' b = none := by
          intro b hb o e
          have z := I'.pin (b, o) (List.mem_append_right _ (List.mem_append_right _ (mem_pinsAt hb e)))
          exact ⟨z.1, z.2.1⟩
        refine ⟨k, hk, i + 1, H', (I'.unpinned (pins := [])).weak len8 ?_, T.keep _ _ _ st7 fun b hb o e => (pin b hb o e).1, ?_, w'⟩
        · intro j v e
          rw [← w8] at e
          exact (wipe_some e).1
        · intro b hb
          obtain ⟨o, e, _⟩ := T.obj _ _ st7 b hb
          exact (pin b hb o e).2
      cases b with
      | false => exact next I9 y9
      | true =>
        refine thnF (g3.run _ s9 σ8 H9 _ I9 y9) fun z s10 y10 => ?_
        obtain ⟨yk, H10, I10, r10, y10⟩ := y10
        refine thnF (g4.run _ s10 σ8 H10 _ I10 y10) fun z2 s11 y11 => ?_
        obtain ⟨yv, H11, I11, r11, kvs, k, ek, eD11, hz, nx⟩ := y11
        subst ek
        exact n_dictSet (X := B) I11 eD11 hz r10 r11 fun s12 I12 => next I12 nx
  subst eE ecl e4
  exact codeAny_compStart_dict post (T.self X.A 0 _ _ _ st4 post)

theorem ps_setDcN {i : Nat} {y : Str} {py : Pos} {kx vx tg iter : Expr} {ifs : List Expr} {scope : Scope} {own : List (Str × Nat)} {pos spos : Pos} {wi : TI} {g : TG} {tt : TT} {tk tv : TE} (calm : X.calm = true) (nd : X.N.Nodup) (at_ : X.N[i]? = some y) (loc : X.env.scope.names.lookup y = some .local)
    (sw : swapsWith (.DictComp kx vx [⟨tg, iter, ifs, 0⟩] scope pos) (some (.Name y py)) spos.line X.env = pure true) (it_ : PI X tg iter wi) (blk : BlkOk X.N X.env.scope scope own)
    (p1 : ∀ (s : Shared) (H : Hp) (C : Addr) (cl : List (Str × Addr)) (fp : List Addr), PG (X.blk s H scope (compEnvC scope cl C X.env) fp) tg g)
    (p2 : ∀ (s : Shared) (H : Hp) (C : Addr) (cl : List (Str × Addr)) (fp : List Addr), PTs (X.blk s H scope (compEnvC scope cl C X.env) fp) ifs tt)
    (p3 : ∀ (s : Shared) (H : Hp) (C : Addr) (cl : List (Str × Addr)) (fp : List Addr), PE (X.blk s H scope (compEnvC scope cl C X.env) fp) kx tk)
    (p4 : ∀ (s : Shared) (H : Hp) (C : Addr) (cl : List (Str × Addr)) (fp : List Addr), PE (X.blk s H scope (compEnvC scope cl C X.env) fp) vx tv)
    (fold : ∀ x, foldedSetIterable iter X.env x = pure x := by intro _; rfl) :
    PS X (.Assign [.Name y py] (.DictComp kx vx [⟨tg, iter, ifs, 0⟩] scope pos) spos) (tAsg (tDn X wi g tt tk tv (own.map (·.2))) (gName i)) := by
  refine ⟨fun pins s σ H D I hD => ?_⟩
  rw [exec_Assign_Name_used _ _ _ _ sw]
  refine wpAny_bind (wpAny_standAt (wpAny_bind ?_))
  show wpAny _ X.A (do let _ ← comprehension (.DictComp kx vx [⟨tg, iter, ifs, 0⟩] scope pos) scope X.env (firstIterPos [⟨tg, iter, ifs, 0⟩] pos) newDict false (eval iter X.env) (some (assign (.Name y py) X.env))) _ _ s
  have hD : tDn X wi g tt tk tv (own.map (·.2)) σ H (fun x H1 => gName i x σ H1 D.nx) := hD
  refine wpAny_bind (thn (dcn_core (Qf := fun _ s' => SP X pins D .next s') calm nd I it_ blk p1 p2 p3 p4 fold hD fun L C s' m H' I' q hn f => ?_) fun _ s' hq => wpAny_pure (wpAny_pure hq))
  show wpAny _ _ (assign (.Name y py) X.env (.ref L)) _ _ _
  refine wpAny_assign_Name (store_ok2 (v := V.ref L) I' nd at_ (.inl loc) rfl (fun s2 I2 ⟨a, sb, ha⟩ => ?_) (.inr loc))
  have ne : C ≠ a := ha.elim (fun z => z ▸ f.2.1) fun z e => f.2.2.2.2.1 y a z e.symm
  exact ⟨m, hn.sameBut sb ne, fun h3 sb3 => ⟨_, H', I2.turned (t' := s2.toks) (fun b o hb e => (sb3.2 b hb).trans e) f.1 f.2.1 f.2.2.2.1 f.2.2.2.2.1 f.2.2.2.2.2, q⟩⟩
theorem sw_trueD {kx vx : Expr} {gs : List Comprehension} {scope : Scope} {pos py : Pos} {y : Str} {l : Nat} {env : Env} (fn : env.scope.kind = .function) (loc : env.scope.names.lookup y = some .local) (ln : (py.line == pos.line) = true)
    (out : (scope.names.any fun (n, k) => n == y && (k == .local || k == .cell)) = false) : swapsWith (.DictComp kx vx gs scope pos) (some (.Name y py)) l env = pure true := by
  have e1 : env.blockKind = .function := by unfold Env.blockKind; rw [fn]; rfl
  have e2 : env.kindOf y = some .local := loc
  unfold swapsWith
  simp only [e1, e2, out, Expr.pos, ln]
  rfl
end
end KZ
end

section
set_option Elab.async false
set_option linter.all false
set_option maxRecDepth 100000
set_option maxHeartbeats 4000000
/-! y = {k: v for .. in ..}, y a local name -/
namespace KZ
open PySem PySem.Spec PyProof.Rows L2
section
variable {X : Cx}
theorem ps_setDc {i : Nat} {y : Str} {py : Pos} {kx vx tg iter : Expr} {ifs : List Expr} {scope : Scope} {own : List (Str × Nat)} {pos spos : Pos} {wi : TI} {g : TG} {tt : TT} {tk tv : TE} (calm : X.calm = true) (nd : X.N.Nodup) (at_ : X.N[i]? = some y) (loc : X.env.scope.names.lookup y = some .local)
    (sw : swapsWith (.DictComp kx vx [⟨tg, iter, ifs, 0⟩] scope pos) (some (.Name y py)) spos.line X.env = pure true) (it_ : PI X tg iter wi) (blk : BlkOk X.N X.env.scope scope own)
    (p1 : ∀ (s : Shared) (H : Hp) (C : Addr) (cl : List (Str × Addr)) (fp : List Addr), PG (X.blk s H scope (compEnvC scope cl C X.env) fp) tg g)
    (p2 : ∀ (s : Shared) (H : Hp) (C : Addr) (cl : List (Str × Addr)) (fp : List Addr), PTs (X.blk s H scope (compEnvC scope cl C X.env) fp) ifs tt)
    (p3 : ∀ (s : Shared) (H : Hp) (C : Addr) (cl : List (Str × Addr)) (fp : List Addr), PE (X.blk s H scope (compEnvC scope cl C X.env) fp) kx tk)
    (p4 : ∀ (s : Shared) (H : Hp) (C : Addr) (cl : List (Str × Addr)) (fp : List Addr), PE (X.blk s H scope (compEnvC scope cl C X.env) fp) vx tv)
    (fold : ∀ x, foldedSetIterable iter X.env x = pure x := by intro _; rfl) :
    PS X (.Assign [.Name y py] (.DictComp kx vx [⟨tg, iter, ifs, 0⟩] scope pos) spos) (tAsg (tDc wi g tt tk tv (own.map (·.2))) (gName i)) := by
  refine ⟨fun pins s σ H D I hD => ?_⟩
  rw [exec_Assign_Name_used _ _ _ _ sw]
  refine wpAny_bind (wpAny_standAt (wpAny_bind ?_))
  show wpAny _ X.A (do let _ ← comprehension (.DictComp kx vx [⟨tg, iter, ifs, 0⟩] scope pos) scope X.env (firstIterPos [⟨tg, iter, ifs, 0⟩] pos) newDict false (eval iter X.env) (some (assign (.Name y py) X.env))) _ _ s
  have hD : tDc wi g tt tk tv (own.map (·.2)) σ H (fun x H1 => gName i x σ H1 D.nx) := hD
  refine wpAny_bind (thn (dc_core (Qf := fun _ s' => SP X pins D .next s') calm nd I it_ blk p1 p2 p3 p4 fold hD fun L C s' m H' I' q hn f => ?_) fun _ s' hq => wpAny_pure (wpAny_pure hq))
  show wpAny _ _ (assign (.Name y py) X.env (.ref L)) _ _ _
  refine wpAny_assign_Name (store_ok2 (v := V.ref L) I' nd at_ (.inl loc) rfl (fun s2 I2 ⟨a, sb, ha⟩ => ?_) (.inr loc))
  have ne : C ≠ a := ha.elim (fun z => z ▸ f.2.1) fun z e => f.2.2.2.2.1 y a z e.symm
  exact ⟨m, hn.sameBut sb ne, fun h3 sb3 => ⟨_, H', I2.turned (t' := s2.toks) (fun b o hb e => (sb3.2 b hb).trans e) f.1 f.2.1 f.2.2.2.1 f.2.2.2.2.1 f.2.2.2.2.2, q⟩⟩
end
end KZ
end

section
set_option Elab.async false
set_option linter.all false
set_option maxRecDepth 100000
set_option maxHeartbeats 4000000
/-! what a host keeps -/
namespace K27
open PySem PySem.Spec L2 KZ
abbrev sKp : Stmt := top 18
/-- the store with t kept of k -/
def putT (f : Int → T3) (k : Int) (t : T3) : Int → T3 := fun j => if j = k then t else f j
def oldIn (cs : List Str) : Bool := inV (.str "older") (cs.map V.str)
def namIn (cs : List Str) : Bool := inV (.str "names") (cs.map V.str)
/-- is t kept -/
def takesT (f : Int → T3) (k : Int) (t : T3) (cs : List Str) : Bool := oldIn cs || gtB (!namIn cs) t.st (f k).st
def keepF (f : Int → T3) (k : Int) (t : T3) (cs : List Str) : Int → T3 := if takesT f k t cs = true then putT f k t else f
def keyU : List Int := [0, 5, 999999999, 40]
theorem u_pl : ∀ j ∈ keyU, inPl j := by
  intro j m
  simp only [keyU, List.mem_cons, List.not_mem_nil, or_false] at m
  rcases m with rfl | rfl | rfl | rfl <;> exact ⟨by decide, by decide⟩
theorem len_sub : ∀ (ks us : List Int), ks.Nodup → (∀ j ∈ ks, j ∈ us) → ks.length ≤ us.length
  | [], _, _, _ => Nat.zero_le _
  | k :: ks, us, nd, sub => by
    have nd' := List.nodup_cons.mp nd
    have h := len_sub ks (us.erase k) nd'.2 fun j m => (List.mem_erase_of_ne (fun e => nd'.1 (by rw [← e]; exact m))).mpr (sub j (List.mem_cons_of_mem _ m))
    have hk : k ∈ us := sub k List.mem_cons_self
    rw [List.length_erase_of_mem hk] at h
    have : 0 < us.length := List.length_pos_of_mem hk
    rw [List.length_cons]
    omega
/-- a host whose store is as it should be -/
structure HostG (K : PySem.W.Frag) (CK CH : Addr) (H : Hp) (a d : Addr) (p c : Int) (f : Int → T3) (kvs : List (Key × V)) (ks : List Int) : Prop where
  l : HostL K CK CH H a d p c f kvs ks
  d : H d = some (.dK kvs)
  ok : ∀ k, (f k).Ok
  pl : inPl p
  kpl : ∀ j, j ∈ ks → j ∈ keyU
  nd : ks.Nodup
  srt : ks.Pairwise (· ≤ ·)
theorem HostG.few {K : PySem.W.Frag} {CK CH : Addr} {H : Hp} {a d : Addr} {p c : Int} {f : Int → T3} {kvs : List (Key × V)} {ks : List Int} (h : HostG K CK CH H a d p c f kvs ks) : ks.length ≤ 4 := len_sub ks keyU h.nd h.kpl
theorem HostG.mono {K : PySem.W.Frag} {CK CH : Addr} {H H' : Hp} {a d : Addr} {p c : Int} {f : Int → T3} {kvs : List (Key × V)} {ks : List Int} (s : Same H H') (h : HostG K CK CH H a d p c f kvs ks) : HostG K CK CH H' a d p c f kvs ks :=
  ⟨h.l.mono s, s _ _ h.d, h.ok, h.pl, h.kpl, h.nd, h.srt⟩
theorem kt_updR {K : PySem.W.Frag} {CK : Addr} {H : Hp} {b d : Addr} {t : T3} {kvs : List (Key × V)} {o : HO} (hd : Rd H d (.dK kvs)) (h : KtAt K CK H b t) : KtAt K CK (upd H d o) b t := by
  obtain ⟨dx, v, u, x, e, a1, a2, a3⟩ := h
  have ne : ∀ {c : Addr} {o' : HO}, H c = some o' → (∀ k, o' ≠ .dK k) → (∀ q k, o' ≠ .frz q (.dK k)) → c ≠ d := fun e n n2 z => by
    rcases hd with hd | ⟨q, hd⟩
    · rw [z, hd] at e
      exact n _ (Option.some.inj e).symm
    · rw [z, hd] at e
      exact n2 _ _ (Option.some.inj e).symm
  obtain ⟨t1, rfl, k1⟩ := dv_tup2 a1
  refine ⟨dx, _, u, x, by rw [upd_ne (ne e (fun _ z => nomatch z) fun _ _ z => nomatch z)]; exact e, .tup ?_ (.cons (.int _) (.cons (.str _) .nil)), ?_, ?_⟩
  · rcases k1 with (z | ⟨o', z⟩) | z
    · exact .inl (.inl (by rw [upd_ne (ne z (fun _ y => nomatch y) fun _ _ y => nomatch y)]; exact z))
    · exact .inl (.inr ⟨o', by rw [upd_ne (ne z (fun _ y => nomatch y) fun _ _ y => nomatch y)]; exact z⟩)
    · exact .inr z
  · cases t <;> cases a2 <;> first | exact .non | exact .int _
  · cases t <;> cases a3 <;> first | exact .non | exact .int _
theorem kvs_updR {K : PySem.W.Frag} {CK : Addr} {H : Hp} {d : Addr} {kvs : List (Key × V)} {o : HO} {f : Int → T3} {ka : List (Key × V)} {ks : List Int} (hd : Rd H d (.dK kvs)) (h : KvsAt K CK H f ka ks) : KvsAt K CK (upd H d o) f ka ks := Paired.mapP h fun _ _ ⟨e, b, e2, k⟩ => ⟨e, b, e2, kt_updR hd k⟩
def spKp (K : PySem.W.Frag) (CK CH : Addr) : Sp := fun vs H Q _ => ∃ h key kp cr d p c f kvs ks t cs, vs = [.ref h, .int key, .ref kp, .ref cr] ∧ HostG K CK CH H h d p c f kvs ks ∧ key ∈ keyU ∧ KtAt K CK H kp t ∧ t.Ok ∧ Sq K H cr (cs.map V.str) ∧
  ∀ a d' kvs' ks' H', Same H H' → HostG K CK CH H' a d' p c (keepF f key t cs) kvs' ks' → (d' = d ∨ H d' = none) → Q (.ref a) H'
theorem ifA_go {t u : TT} {s1 s2 : TS} {D : Ends} {σ : L2.St} {H : Hp} (b1 b2 : Bool) (h1 : ∀ Q : Bool → Hp → Prop, Q b1 H → t σ H Q) (h2 : b1 = true → ∀ Q : Bool → Hp → Prop, (∀ H', Same H H' → Q b2 H') → u σ H Q)
    (tail : (b1 && b2) = false → ∀ H', Same H H' → s2 D σ H') (go : (b1 && b2) = true → ∀ H', Same H H' → s1 { D with nx := s2 D } σ H') : tSeq (tIfS (tAnd t u) s1 tNext) s2 D σ H := by
  refine h1 _ ?_
  cases b1 with
  | false => exact iteF (iteF (tail rfl H (Same.refl H)))
  | true =>
    refine iteT (h2 rfl _ fun H' s' => ?_)
    cases b2 with
    | false => exact iteF (tail rfl H' s')
    | true => exact iteT (go rfl H' s')
theorem kvs_put {K : PySem.W.Frag} {CK : Addr} {H : Hp} {f : Int → T3} {key : Int} {t : T3} {kvs : List (Key × V)} {ks : List Int} (h : KvsAt K CK H f kvs ks) (n : key ∉ ks) : KvsAt K CK H (putT f key t) kvs ks := by
  unfold KvsAt at h ⊢
  induction h with
  | nil => exact .nil
  | @cons p j ps js hh _ ih =>
    obtain ⟨e, b, e2, k⟩ := hh
    refine .cons ⟨e, b, e2, ?_⟩ (ih fun m => n (List.mem_cons_of_mem _ m))
    have ne : ¬ j = key := fun z => n (by rw [z]; exact List.mem_cons_self)
    show KtAt K CK H b (if j = key then t else f j)
    rw [if_neg ne]
    exact k
def offK (ks : List Int) (key : Int) : List Int := ks.filter fun j => !decide (j = key)
theorem mem_offK {ks : List Int} {key j : Int} : j ∈ offK ks key ↔ j ∈ ks ∧ j ≠ key := by
  unfold offK
  rw [List.mem_filter]
  simp
theorem putT_ok {f : Int → T3} {key : Int} {t : T3} (ok : ∀ k, (f k).Ok) (tok : t.Ok) : ∀ k, (putT f key t k).Ok := fun k => by
  show (if k = key then t else f k).Ok
  by_cases h : k = key
  · rw [if_pos h]; exact tok
  · rw [if_neg h]; exact ok k
section
variable {P : Program} {w : World} {K : PySem.W.Frag} {mg : Str → Option Value} {base : Heap} {CK CH fG fHW fKe fNo fHK fIt cB : Addr} {dG dHW dKe dNo dHK : FuncData}
theorem scKp : FnScope ["host", "key", "kept", "cares", "kepts", "other"] ["host", "key", "kept", "cares"] (defScope sKp) := ⟨rfl, rfl, rfl, by decide +kernel, rfl, by decide +kernel, by decide +kernel⟩
theorem flat_strs (cs : List Str) : (cs.map V.str).all flatV = true := by
  rw [List.all_eq_true]
  intro x m
  obtain ⟨c, _, rfl⟩ := List.mem_map.mp m
  rfl
/-- what the host functions lean on -/
structure HoF (P : Program) (w : World) (K : PySem.W.Frag) (mg : Str → Option Value) (base : Heap) (CK CH cB fIt : Addr) : Prop where
  AH : ClsF K mg "Host" CH hF
  AK : ClsF K mg "Kept" CK kF
  gr : ∃ f fd, mg "is_greater" = some (.ref f) ∧ FnOk P w K mg base CX0 1 f fd ["one", "other", "names"] (spGr K CK) ∧ PySem.W.keepIn K (.ref f) = true ∧ Binds K fd ["one", "other", "names"] []
  hw : ∃ f fd, mg "host_with" = some (.ref f) ∧ FnOk P w K mg base CX0 9 f fd ["host", "closed", "kepts"] (spHW K CK CH) ∧ PySem.W.keepIn K (.ref f) = true ∧ Binds K fd ["host", "closed", "kepts"] []
  ke : ∃ f fd, FnOk P w K mg base CX0 1 f fd ["self", "other"] (spEqC K CK kF (rKE K)) ∧ OwnEqF K CK f fd ["self", "other"] ∧ PySem.W.notFirst K CK (.ref CK) = true
  no : ∃ f fd, mg "nothing" = some (.ref f) ∧ FnOk P w K mg base CX0 5 f fd [] (spNoth K CK) ∧ PySem.W.keepIn K (.ref f) = true ∧ Binds K fd [] []
  hk : ∃ f fd, Meth K CH "kept" f ∧ FnOk P w K mg base (L2.CX P w) 7 f fd ["self", "key"] (spHK K CK CH cB) ∧ Binds K fd ["self", "key"] []
  it : ItF P w K mg base 1 CH fIt "_kepts"
theorem ok_kp {f : Addr} {fd : FuncData} (F : Fun K "keeping" "keeping" sKp f fd) (T : B1 mg) (HF : HoF P w K mg base CK CH cB fIt) : FnOk P w K mg base CX0 10 f fd ["host", "key", "kept", "cares"] (spKp K CK CH) := by
  obtain ⟨fG, dG, gG, GG, kG, bG⟩ := HF.gr
  obtain ⟨fHW, dHW, gHW, GHW, kHW, bHW⟩ := HF.hw
  obtain ⟨fKe, dKe, FKe, OKe, nfK⟩ := HF.ke
  obtain ⟨fNo, dNo, gNo, GNo, kNo, bNo⟩ := HF.no
  obtain ⟨fHK, dHK, MHK, GHK_, bHK⟩ := HF.hk
  have GHK := KZ.FnOk.x0 GHK_
  have IT := HF.it
  have AH := HF.AH
  refine F.ok scKp (fun vs H Q E h => ?_) (fun cdv A' outer s H vs Q E hr h => ?_)
  · obtain ⟨h, key, kp, cr, d, p, c, f, kvs, ks, t, cs, rfl, _⟩ := h
    rfl
  · obtain ⟨h, key, kp, cr, d, p, c, f, kvs, ks, t, cs, rfl, hg, hkey, kt, tok, hc, q⟩ := h
    have hr9 : Room 9 _ := hr
    have hr7 : Room 7 _ := hr.mono (by decide)
    have hrN : Room 5 _ := hr.mono (by decide)
    have hr2 : Room 2 _ := hr.mono (by decide)
    have hr1 : Room 1 _ := hr.mono (by decide)
    refine ⟨_, (pss_cons (ps_if (PW.pt (pw_and (pt_cmpR (op_notIn_seqK K) pe_str (pv 3) (by rfl)) (pw_and1 (pt_not (pt_val (pe_call GG hr1 (by rfl) gG kG bG .nil pass0 (pa_cons (pv 2) (pa_cons (pe_meth (pv 0) AH.cl MHK GHK hr7 bHK .nil pass0 (pa_cons (pv 1) pa_nil)) (pa_cons (pe_cmpR (op_notIn_seqK K) pe_str (pv 3) (by rfl)) pa_nil)))))))))
(pss_one (ps_ret (pv 0)))
pss_nil)
(pss_cons (ps_lock (ps_setDc (i := 4) (own := [("other", 5)]) (g := gName 5) (by rfl) scKp.nd rfl rfl (sw_trueD rfl rfl rfl (by decide +kernel)) (pi_own IT hr1 (pv 0)) (blkOk_by (own := [("other", 5)]) (N := ["host", "key", "kept", "cares", "kepts", "other"]) (sc := defScope sKp) (by decide +kernel)) (fun _ _ _ _ _ => pg_name (i := 5) scKp.nd rfl (Or.inl rfl)) (fun _ _ _ _ _ => pts_one (pt_cmpR op_ne (pv 5) (pv 1) (nomark _))) (fun _ _ _ _ _ => pv 5) (fun _ _ _ _ _ => pe_meth (pv 0) AH.cl MHK GHK hr7 bHK .nil pass0 (pa_cons (pv 5) pa_nil))))
(pss_cons (ps_if (pt_cmpR (op_neO FKe OKe pass0 hr2) (pv 2) (pe_call0 GNo hrN (by rfl) gNo kNo bNo .nil pass0) (nomark _))
(pss_one (ps_dput (hu_of hr) (pv 4) (pv 1) (pv 2) rfl))
pss_nil)
(pss_one (ps_ret (pe_call GHW hr9 (by rfl) gHW kHW bHW .nil pass0 (pa_cons (pv 0) (pa_cons (pe_fldK K (pv 0) rfl) (pa_cons (pv 4) pa_nil))))))))), ?_⟩
    have no : ∀ x ∈ hF, NoAttr K CH x := AH.no
    obtain ⟨dx, ha⟩ := hg.l.at_
    refine ifA_go (!oldIn cs) (!gtB (!namIn cs) t.st (f key).st) (fun Q' k => ⟨.ref cr, rfl, cr, _, rfl, hc, rfl, flat_strs cs, _, rfl, k⟩) (fun _ Q' k => ?_) (fun hb H1 s1 => ?_) (fun hb H1 s1 => ?_)
    · refine ⟨.ref kp, rfl, .ref h, rfl, h, dx, _, rfl, ha, rfl, .int key, rfl, h, .int key, .int key, d, p, c, f, kvs, ks, rfl, .int key, trivial, hg.l, fun i ei hi b H' s' kt' => ?_, fun z => absurd (within_pl (u_pl key hkey)) (by rw [z]; exact Bool.false_ne_true)⟩
      cases ei
      exact ⟨.ref cr, rfl, cr, _, rfl, hc.mono s', rfl, flat_strs cs, kp, b, t, f key, _, rfl, kt.mono s', kt', _, rfl, k H' s'⟩
    · have tk : takesT f key t cs = true := by
        unfold takesT
        cases h1 : oldIn cs <;> cases h2 : gtB (!namIn cs) t.st (f key).st <;> simp_all
      have kf : keepF f key t cs = putT f key t := by
        unfold keepF
        rw [if_pos tk]
      have ha1 := s1 _ _ ha
      have hd1 := s1 _ _ hg.d
      have hl1 := hg.l.mono s1
      have kt1 := kt.mono s1
      have q := fun a d' kvs' ks' H' (z : Same H1 H') g (nd : d' = d ∨ H1 d' = none) => q a d' kvs' ks' H' (s1.trans z) g (nd.imp id s1.free)
      rw [kf] at q
      clear hb tk kf
      refine ⟨d, _, hd1, True.intro, fun od => ?_⟩
      have naD : ∀ {x : Addr} {C' dz : Addr} {fs : List (Str × V)} {H2 : Hp} {z : Addr} {kk : List (Key × V)} {o : HO}, Rd H2 z (.dK kk) → H2 x = some (.ins C' dz fs) → upd H2 z o x = some (.ins C' dz fs) := fun ed e => by
        rw [upd_ne (fun z => by rcases ed with ed | ⟨o', ed⟩ <;> (rw [z, ed] at e; cases e))]
        exact e
      have haL : upd H1 d (.frz od (.dK kvs)) h = some (.ins CH dx [("place", .int p), ("closed", .int c), ("_kepts", .ref d)]) := naD (.inl hd1) ha1
      have hLL : HostL K CK CH (upd H1 d (.frz od (.dK kvs))) h d p c f kvs ks := ⟨⟨dx, haL⟩, .inr ⟨od, upd_same⟩, kvs_updR (.inl hd1) hl1.kv, hl1.iff⟩
      have dL : upd H1 d (.frz od (.dK kvs)) d = some (.frz od (.dK kvs)) := upd_same
      have offd : ∀ b, b ≠ d → upd H1 d (.frz od (.dK kvs)) b = H1 b := fun b hb => upd_ne hb
      generalize upd H1 d (.frz od (.dK kvs)) = HL at haL hLL dL offd ⊢
      refine ⟨.ref h, rfl, h, dx, _, d, od, kvs, rfl, haL, rfl, dL, fun D hD => ?_⟩
      have neD : ∀ b o, HL b = some o → b ≠ D := fun b o e z => by rw [z, hD] at e; cases e
      have lk : kvs.length = ks.length := Paired.length hLL.kv
      refine dc_it (walk_keys (d := d) (o := od) (kvs := kvs)) (fun i H' => (∀ b o, b ≠ D → HL b = some o → H' b = some o) ∧ ∃ kv', H' D = some (.dK kv') ∧ KvsAt K CK H' f kv' (offK (ks.take i) key)) ⟨fun b o hb e => by rw [upd_ne hb]; exact e, [], upd_same, .nil⟩ (fun i H' _ c => c.1 _ _ (neD _ _ dL) dL) ?_ ?_
      · rintro i x H5 H6 hi ⟨c1, kv', c2, c3⟩ ⟨rfl, k, vv, hk, rfl⟩
        have ii : i < ks.length := by rw [← lk]; exact hi
        obtain ⟨j, ej, ek, b0, eb0, kt0⟩ := paired_get hLL.kv hk
        subst ek
        have ej' : ks[i] = j := by
          rw [List.getElem?_eq_getElem ii] at ej
          exact Option.some.inj ej
        have jm : j ∈ ks := ej' ▸ List.getElem_mem ii
        have s5 : Same HL H6 := fun b o e => c1 b o (neD b o e) e
        have tk1 : ks.take (i + 1) = ks.take i ++ [j] := by rw [List.take_add_one, ej]; rfl
        refine ⟨rfl, .int j, rfl, .int key, rfl, rfl, _, rfl, ?_⟩
        rw [dI]
        by_cases jk : j = key
        · rw [decide_eq_true jk]
          refine iteF' ⟨c1, kv', c2, ?_⟩
          have e : offK (ks.take (i + 1)) key = offK (ks.take i) key := by
            rw [tk1]
            unfold offK
            rw [List.filter_append, List.filter_cons, decide_eq_true jk]
            simp
          rw [e]
          exact c3
        · rw [decide_eq_false jk]
          refine iteT' ⟨_, rfl, .ref h, rfl, h, dx, _, rfl, s5 _ _ haL, rfl, .int j, rfl, h, .int j, .int j, d, p, c, f, kvs, ks, rfl, .int j, trivial, hLL.mono s5, fun i' ei hi' b H7 s7 kt7 => ?_, fun z => absurd (within_pl (u_pl j (hg.kpl j jm))) (by rw [z]; exact Bool.false_ne_true)⟩
          cases ei
          have nt : j ∉ offK (ks.take i) key := fun m => by
            have m' := (mem_offK.mp m).1
            have e : ks = ks.take i ++ ks.drop i := (List.take_append_drop i ks).symm
            rw [List.drop_eq_getElem_cons ii, ej'] at e
            have nd2 := hg.nd
            rw [e] at nd2
            exact (List.nodup_append.mp nd2).2.2 _ m' _ List.mem_cons_self rfl
          have hn : valV kv' (Sum.inl j) = none := by
            rcases kvs_val c3 j with ⟨m, _⟩ | ⟨_, z⟩
            · exact absurd m nt
            · exact z
          refine ⟨kv', Sum.inl j, rfl, s7 _ _ c2, ?_, fun b' o hb' e => by rw [upd_ne hb']; exact s7 _ _ (c1 b' o hb' e), kv' ++ [(Sum.inl j, .ref b)], by rw [upd_same, putK_new hn], ?_⟩
          · have l1 : kv'.length = (offK (ks.take i) key).length := Paired.length c3
            have l2 : (offK (ks.take i) key).length ≤ (ks.take i).length := List.length_filter_le _ _
            have l3 : (ks.take i).length ≤ ks.length := by rw [List.length_take]; exact Nat.min_le_right _ _
            have l4 := hg.few
            rw [sizeLine_eq]
            omega
          · have e : offK (ks.take (i + 1)) key = offK (ks.take i) key ++ [j] := by
              rw [tk1]
              unfold offK
              rw [List.filter_append, List.filter_cons, decide_eq_false jk]
              rfl
            rw [e]
            refine Paired.snoc (kvs_updR (.inl (s7 _ _ c2)) (c3.mono s7)) ⟨rfl, b, rfl, kt_updR (.inl (s7 _ _ c2)) kt7⟩
      · rintro H5 ⟨c1, kv', c2, c3⟩
        rw [lk, List.take_length] at c3
        have d5 := c1 _ _ (neD _ _ dL) dL
        refine ⟨d5, ?_⟩
        have Dd : D ≠ d := fun z => by rw [z, dL] at hD; cases hD
        have s6 : Same H1 (upd H5 d (.dK kvs)) := fun b o e => by
          by_cases hb : b = d
          · rw [hb, upd_same]
            rw [hb, hd1] at e
            exact e
          · rw [upd_ne hb]
            have e' : HL b = some o := by rw [offd b hb]; exact e
            exact c1 _ _ (neD _ _ e') e'
        have c3 := kvs_updR (o := .dK kvs) (.inr ⟨od, d5⟩) c3
        have c2 : upd H5 d (.dK kvs) D = some (.dK kv') := by rw [upd_ne Dd]; exact c2
        generalize upd H5 d (.dK kvs) = H6 at s6 c2 c3 ⊢
        refine ⟨.ref kp, rfl, rfl, fun a7 H7 s7 _ kn => ?_⟩
        obtain ⟨dxk, kv1, kv2, kv3, ekp, _⟩ := id ((kt1.mono s6).mono s7)
        obtain ⟨dxn, kn1, kn2, kn3, ekn, _⟩ := id kn
        refine ⟨kp, dxk, _, .ref CK, rfl, ekp, HF.AK.ty _ _ _ _ ekn, nfK, spE_kt ((kt1.mono s6).mono s7) kn tok trivial ⟨_, rfl, _, rfl, ?_⟩⟩
        have c2 := s7 _ _ c2
        have c3 := c3.mono s7
        have s7 := s6.trans s7
        have kn : key ∉ offK ks key := fun m => (mem_offK.mp m).2 rfl
        have nd1 : (offK ks key).Nodup := hg.nd.sublist List.filter_sublist
        have l1 : (offK ks key).length ≤ ks.length := List.length_filter_le _ _
        have l4 := hg.few
        have sub1 : ∀ j, j ∈ offK ks key → j ∈ keyU := fun j m => hg.kpl j (mem_offK.mp m).1
        by_cases tn : t = .no
        · rw [decide_eq_true tn, show (true != true) = false from rfl]
          refine iteF' ⟨.ref h, rfl, .ref h, rfl, h, CH, dx, _, .int c, rfl, s7 _ _ ha1, AH.cl, no _ (by decide), rfl, .ref D, rfl, ?_⟩
          refine ⟨h, D, p, c, c, f, putT f key t, d, kvs, ks, kv', offK ks key, rfl, hl1.mono s7, hg.pl, c2, kvs_put c3 kn, nd1, by omega, fun j => ?_, fun ks' a d' kvs' H' pm pw s' hl hd' hnd => q a d' kvs' ks' H' (s7.trans s') ⟨hl, hd', putT_ok hg.ok tok, hg.pl, fun j m => sub1 j (pm.mem_iff.mp m), pm.nodup_iff.mpr nd1, pw⟩ (.inr (s7.free hnd))⟩
          rw [mem_offK]
          show _ ↔ (if j = key then t else f j) ≠ .no
          by_cases jk : j = key
          · rw [if_pos jk]
            exact ⟨fun z => absurd jk z.2, fun z => absurd tn z⟩
          · rw [if_neg jk]
            exact ⟨fun z => (hl1.iff j).mp z.1, fun z => ⟨(hl1.iff j).mpr z, jk⟩⟩
        · rw [decide_eq_false tn, show (true != false) = true from rfl]
          have hn : valV kv' (Sum.inl key) = none := by
            rcases kvs_val c3 key with ⟨m, _⟩ | ⟨_, z⟩
            · exact absurd m kn
            · exact z
          have lv : kv'.length = (offK ks key).length := Paired.length c3
          refine iteT' ⟨.ref kp, rfl, .ref D, rfl, .int key, rfl, D, _, rfl, .inl ⟨kv', Sum.inl key, c2, rfl, by rw [sizeLine_eq]; omega, rfl⟩, ?_⟩
          rw [putK_new hn]
          have nDk : ∀ b o, H1 b = some o → b ≠ D := fun b o e z => by
            by_cases hb : b = d
            · exact Dd (z ▸ hb)
            · exact neD b o (by rw [offd b hb]; exact e) z
          have s8 : Same H1 (upd H7 D (.dK (kv' ++ [(Sum.inl key, .ref kp)]))) := fun b o e => by
            rw [upd_ne (nDk b o e)]
            exact s7 _ _ e
          have c4 : KvsAt K CK (upd H7 D (.dK (kv' ++ [(Sum.inl key, .ref kp)]))) (putT f key t) (kv' ++ [(Sum.inl key, .ref kp)]) (offK ks key ++ [key]) := by
            refine Paired.snoc (kvs_updR (.inl c2) (kvs_put c3 kn)) ⟨rfl, kp, rfl, ?_⟩
            show KtAt K CK _ kp (if key = key then t else f key)
            rw [if_pos rfl]
            exact kt1.mono s8
          have c5 : upd H7 D (.dK (kv' ++ [(Sum.inl key, .ref kp)])) D = some (.dK (kv' ++ [(Sum.inl key, .ref kp)])) := upd_same
          generalize upd H7 D (.dK (kv' ++ [(Sum.inl key, .ref kp)])) = H8 at s8 c4 c5 ⊢
          have nd2 : (offK ks key ++ [key]).Nodup := List.nodup_append.mpr ⟨nd1, by simp, fun a ha b hb e => by
            rw [List.mem_singleton] at hb
            subst hb
            subst e
            exact kn ha⟩
          have sub2 : ∀ j, j ∈ offK ks key ++ [key] → j ∈ keyU := fun j m => (List.mem_append.mp m).elim (sub1 j) fun z => by
            rw [List.mem_singleton.mp z]
            exact hkey
          refine ⟨.ref h, rfl, .ref h, rfl, h, CH, dx, _, .int c, rfl, s8 _ _ ha1, AH.cl, no _ (by decide), rfl, .ref D, rfl, ?_⟩
          refine ⟨h, D, p, c, c, f, putT f key t, d, kvs, ks, _, offK ks key ++ [key], rfl, hl1.mono s8, hg.pl, c5, c4, nd2, by rw [List.length_append, List.length_singleton]; omega, fun j => ?_, fun ks' a d' kvs' H' pm pw s' hl hd' hnd => q a d' kvs' ks' H' (s8.trans s') ⟨hl, hd', putT_ok hg.ok tok, hg.pl, fun j m => sub2 j (pm.mem_iff.mp m), pm.nodup_iff.mpr nd2, pw⟩ (.inr (s8.free hnd))⟩
          rw [List.mem_append, List.mem_singleton, mem_offK]
          show _ ↔ (if j = key then t else f j) ≠ .no
          by_cases jk : j = key
          · rw [if_pos jk]
            exact ⟨fun _ => tn, fun _ => .inr jk⟩
          · rw [if_neg jk]
            exact ⟨fun z => z.elim (fun y => (hl1.iff j).mp y.1) fun y => absurd y jk, fun z => .inl ⟨(hl1.iff j).mpr z, jk⟩⟩
    · have tk : takesT f key t cs = false := by
        unfold takesT
        cases h1 : oldIn cs <;> cases h2 : gtB (!namIn cs) t.st (f key).st <;> simp_all
      have kf : keepF f key t cs = f := by
        unfold keepF
        rw [if_neg (by rw [tk]; exact Bool.false_ne_true)]
      refine ⟨_, rfl, q h d kvs ks H1 s1 ?_ (.inl rfl)⟩
      rw [kf]
      exact hg.mono s1
end
end K27
end

section
set_option Elab.async false
set_option linter.all false
set_option maxRecDepth 100000
set_option maxHeartbeats 4000000
/-! what a host answers -/
namespace K27
open PySem PySem.Spec L2 KZ
abbrev sAn : Stmt := mem 16 2
/-- a letter, and what it brings -/
inductive Ltr where
  | fence (e : Int)
  | sweep (e key : Int) (t : T3)
  | hear (a m e key : Int)
  | keep (a m e key : Int) (t : T3)
def Ltr.word : Ltr → Str
  | .fence _ => "fence"
  | .sweep _ _ _ => "sweep"
  | .hear _ _ _ _ => "hear"
  | .keep _ _ _ _ _ => "keep"
def Ltr.Ok : Ltr → Prop
  | .fence _ => True
  | .sweep _ key t => key ∈ keyU ∧ t.Ok
  | .hear _ _ _ key => key ∈ keyU
  | .keep _ _ _ key t => key ∈ keyU ∧ t.Ok
/-- the parts of a letter, as a host is given them -/
def PartsAt (K : PySem.W.Frag) (CK : Addr) (H : Hp) (r : Addr) : Ltr → Prop
  | .fence e => SqT K H r [.int e]
  | .sweep e key t => ∃ b, SqT K H r [.int e, .int key, .ref b] ∧ KtAt K CK H b t
  | .hear a m e key => SqT K H r [.int a, .int m, .int e, .int key]
  | .keep a m e key t => ∃ b, SqT K H r [.int a, .int m, .int e, .int key, .ref b] ∧ KtAt K CK H b t
inductive Ans where
  | fenced (e : Int) (ps : List (Int × T3))
  | swept (e key : Int)
  | refused (a m c : Int)
  | heard (a m : Int) (t : T3)
  | kept (a m : Int)
def PairAt (K : PySem.W.Frag) (CK : Addr) (H : Hp) (v : V) (p : Int × T3) : Prop := ∃ q b, v = .ref q ∧ H q = some (.tup [.int p.1, .ref b]) ∧ KtAt K CK H b p.2
theorem PairAt.mono {K : PySem.W.Frag} {CK : Addr} {H H' : Hp} {v : V} {p : Int × T3} (s : Same H H') (h : PairAt K CK H v p) : PairAt K CK H' v p := let ⟨q, b, e, h1, h2⟩ := h; ⟨q, b, e, s _ _ h1, h2.mono s⟩
theorem pair_updR {K : PySem.W.Frag} {CK : Addr} {H : Hp} {d : Addr} {kvs : List (Key × V)} {o : HO} {v : V} {p : Int × T3} (hd : Rd H d (.dK kvs)) (h : PairAt K CK H v p) : PairAt K CK (upd H d o) v p := by
  obtain ⟨q, b, e, h1, h2⟩ := h
  refine ⟨q, b, e, ?_, kt_updR hd h2⟩
  rw [upd_ne (fun z => by rcases hd with hd | ⟨o', hd⟩ <;> (rw [z, hd] at h1; cases h1))]
  exact h1
def AnsAt (K : PySem.W.Frag) (CK : Addr) (H : Hp) (w : Addr) : Ans → Prop
  | .fenced e ps => ∃ q r vs, H w = some (.tup [.str "fenced", .ref q]) ∧ H q = some (.tup [.int e, .ref r]) ∧ H r = some (.tup vs) ∧ Paired (PairAt K CK H) vs ps
  | .swept e key => ∃ q, H w = some (.tup [.str "swept", .ref q]) ∧ H q = some (.tup [.int e, .int key])
  | .refused a m c => ∃ q, H w = some (.tup [.str "refused", .ref q]) ∧ H q = some (.tup [.int a, .int m, .int c])
  | .heard a m t => ∃ q b, H w = some (.tup [.str "heard", .ref q]) ∧ H q = some (.tup [.int a, .int m, .ref b]) ∧ KtAt K CK H b t
  | .kept a m => ∃ q, H w = some (.tup [.str "kept", .ref q]) ∧ H q = some (.tup [.int a, .int m])
theorem AnsAt.mono {K : PySem.W.Frag} {CK : Addr} {H H' : Hp} {w : Addr} {x : Ans} (s : Same H H') (h : AnsAt K CK H w x) : AnsAt K CK H' w x := by
  cases x with
  | fenced e ps =>
    obtain ⟨q, r, vs, h1, h2, h3, h4⟩ := h
    exact ⟨q, r, vs, s _ _ h1, s _ _ h2, s _ _ h3, Paired.mapP h4 fun _ _ z => z.mono s⟩
  | swept e key => exact let ⟨q, h1, h2⟩ := h; ⟨q, s _ _ h1, s _ _ h2⟩
  | refused a m c => exact let ⟨q, h1, h2⟩ := h; ⟨q, s _ _ h1, s _ _ h2⟩
  | heard a m t => exact let ⟨q, b, h1, h2, h3⟩ := h; ⟨q, b, s _ _ h1, s _ _ h2, h3.mono s⟩
  | kept a m => exact let ⟨q, h1, h2⟩ := h; ⟨q, s _ _ h1, s _ _ h2⟩
def maxI (i j : Int) : Int := if j > i then j else i
/-- what is closed, and kept, behind a letter; the answer (ks: the keys of the store, in order) -/
def stepC (c : Int) : Ltr → Int
  | .fence e => maxI c e
  | _ => c
def stepF (c : Int) (f : Int → T3) (cs : List Str) : Ltr → Int → T3
  | .fence _ => f
  | .sweep _ key t => keepF f key t cs
  | .hear _ _ _ _ => f
  | .keep _ _ e key t => if decide (e ≤ c) = true then f else keepF f key t cs
def stepA (c : Int) (f : Int → T3) (ks : List Int) : Ltr → Ans
  | .fence e => .fenced e (ks.map fun k => (k, f k))
  | .sweep e key _ => .swept e key
  | .hear a m e key => if decide (e ≤ c) = true then .refused a m (c + 1) else .heard a m (f key)
  | .keep a m e _ _ => if decide (e ≤ c) = true then .refused a m (c + 1) else .kept a m
def spAn (K : PySem.W.Frag) (CK CH : Addr) : Sp := fun vs H Q _ => ∃ h r cr d p c f kvs ks l cs, vs = [.ref h, .str l.word, .ref r, .ref cr] ∧ HostG K CK CH H h d p c f kvs ks ∧ l.Ok ∧ PartsAt K CK H r l ∧ Sq K H cr (cs.map V.str) ∧
  ∀ z a w d' kvs' ks' H', Same H H' → H' z = some (.tup [.ref a, .ref w]) → HostG K CK CH H' a d' p (stepC c l) (stepF c f cs l) kvs' ks' → AnsAt K CK H' w (stepA c f ks l) → (d' = d ∨ H d' = none) → Q (.ref z) H'
theorem tup3 {H1 : Hp} {q1 w1 z a : Addr} {X : List V} {wd : Str} (h1 : H1 q1 = none) (h2 : upd H1 q1 (.tup X) w1 = none) (h3 : upd (upd H1 q1 (.tup X)) w1 (.tup [.str wd, .ref q1]) z = none) :
    ∃ H4, upd (upd (upd H1 q1 (.tup X)) w1 (.tup [.str wd, .ref q1])) z (.tup [.ref a, .ref w1]) = H4 ∧ Same H1 H4 ∧ H4 z = some (.tup [.ref a, .ref w1]) ∧ H4 w1 = some (.tup [.str wd, .ref q1]) ∧ H4 q1 = some (.tup X) :=
  ⟨_, rfl, (same_new h1).trans ((same_new h2).trans (same_new h3)), upd_same, same_new h3 _ _ upd_same, same_new h3 _ _ (same_new h2 _ _ upd_same)⟩
theorem w_ne : ∀ x ∈ (["sweep", "hear", "keep"] : List Str), decide (V.str x = V.str "fence") = false := by decide +kernel
theorem w_ne2 : ∀ x ∈ (["hear", "keep"] : List Str), decide (V.str x = V.str "sweep") = false := by decide +kernel
theorem w_ne3 : decide (V.str ("keep" : Str) = V.str "hear") = false := by decide +kernel
section
variable {P : Program} {w : World} {K : PySem.W.Frag} {mg : Str → Option Value} {base : Heap} {CK CH fKp fIt cB : Addr} {dKp : FuncData}
theorem scAn : FnScope ["self", "word", "parts", "cares", "epoch", "told", "key", "kept", "ask", "attempt"] ["self", "word", "parts", "cares"] (defScope sAn) := ⟨rfl, rfl, rfl, by decide +kernel, rfl, by decide +kernel, by decide +kernel⟩
theorem ok_an {f : Addr} {fd : FuncData} {q : Str} {dv : List V} (F : FunD K "answered" q (defArgs sAn) (defBody sAn) (defScope sAn) dv [] f fd) (T : B1 mg) (HF : HoF P w K mg base CK CH cB fIt) (gKp : mg "keeping" = some (.ref fKp)) (GKp : FnOk P w K mg base CX0 10 fKp dKp ["host", "key", "kept", "cares"] (spKp K CK CH)) (kKp : PySem.W.keepIn K (.ref fKp) = true) (bKp : Binds K dKp ["host", "key", "kept", "cares"] []) :
    FnOk P w K mg base CX0 11 f fd ["self", "word", "parts", "cares"] (spAn K CK CH) := by
  obtain ⟨fHW, dHW, gHW, GHW, kHW, bHW⟩ := HF.hw
  obtain ⟨fHK, dHK, MHK, GHK_, bHK⟩ := HF.hk
  have GHK := KZ.FnOk.x0 GHK_
  have AH := HF.AH
  refine okD F scAn (fun vs H Q E h => ?_) (fun cdv A' outer s H vs Q E hr h => ?_)
  · obtain ⟨h, r, cr, d, p, c, f, kvs, ks, l, cs, rfl, _⟩ := h
    rfl
  · obtain ⟨h, r, cr, d, p, c, f, kvs, ks, l, cs, rfl, hg, lok, pt, hc, q⟩ := h
    have hr10 : Room 10 _ := hr
    have hr9 : Room 9 _ := hr.mono (by decide)
    have hr7 : Room 7 _ := hr.mono (by decide)
    have no : ∀ x ∈ hF, NoAttr K CH x := AH.no
    obtain ⟨dx, ha⟩ := hg.l.at_
    refine ⟨_, (pss_cons (ps_if (pt_cmpR op_eq (pv 1) pe_str (nomark _))
(pss_cons (ps_set (i := 4) scAn.nd rfl (Or.inl rfl) (pe_ix (ix_seqK K) (pv 2) pe_int (fun _ _ => rfl)))
(pss_cons (ps_set (i := 5) scAn.nd rfl (Or.inl rfl) (pe_callTy call_tuple_of (by rfl) T.tuple (by decide +kernel) (pa_cons (pe_lock (pe_lc (own := [("key", 6)]) (g := gName 6) (tt := tYes) (by rfl) scAn.nd (pi_keys (pe_fldK K (pv 0) rfl)) (blkOk_by (own := [("key", 6)]) (N := ["self", "word", "parts", "cares", "epoch", "told", "key", "kept", "ask", "attempt"]) (sc := defScope sAn) (by decide +kernel)) (fun _ _ _ _ _ => pg_name (i := 6) scAn.nd rfl (Or.inl rfl)) (fun _ _ _ _ _ => pts_nil) (fun _ _ _ _ _ => pe_tup (pa_cons (pv 6) (pa_cons (pe_dget (hu_of hr) (pe_fldK K (pv 0) rfl) (pv 6) (fun _ _ => rfl)) pa_nil))))) pa_nil)))
(pss_one (ps_ret (pe_tup (pa_cons (pe_call GHW hr9 (by rfl) gHW kHW bHW .nil pass0 (pa_cons (pv 0) (pa_cons (pe_callB (call_max2 rfl) (by rfl) T.max (by decide +kernel) (pa_cons (pe_fldK K (pv 0) rfl) (pa_cons (pv 4) pa_nil))) (pa_cons (pe_fldK K (pv 0) rfl) pa_nil)))) (pa_cons (pe_tup (pa_cons pe_str (pa_cons (pe_tup (pa_cons (pv 4) (pa_cons (pv 5) pa_nil))) pa_nil))) pa_nil)))))))
pss_nil)
(pss_cons (ps_if (pt_cmpR op_eq (pv 1) pe_str (nomark _))
(pss_cons (ps_asg (pv 2) (pg_tupK (n := 3) K rfl ((pgs_cons (pg_name (i := 4) scAn.nd rfl (Or.inl rfl)) (pgs_cons (pg_name (i := 6) scAn.nd rfl (Or.inl rfl)) (pgs_cons (pg_name (i := 7) scAn.nd rfl (Or.inl rfl)) pgs_nil))))))
(pss_one (ps_ret (pe_tup (pa_cons (pe_call GKp hr10 (by rfl) gKp kKp bKp .nil pass0 (pa_cons (pv 0) (pa_cons (pv 6) (pa_cons (pv 7) (pa_cons (pv 3) pa_nil))))) (pa_cons (pe_tup (pa_cons pe_str (pa_cons (pe_tup (pa_cons (pv 4) (pa_cons (pv 6) pa_nil))) pa_nil))) pa_nil))))))
pss_nil)
(pss_cons (ps_asg (pe_slice (sl_tupAK K) (pv 2) po_none (po_some pe_int)) (pg_tupK (n := 4) K rfl ((pgs_cons (pg_name (i := 8) scAn.nd rfl (Or.inl rfl)) (pgs_cons (pg_name (i := 9) scAn.nd rfl (Or.inl rfl)) (pgs_cons (pg_name (i := 4) scAn.nd rfl (Or.inl rfl)) (pgs_cons (pg_name (i := 6) scAn.nd rfl (Or.inl rfl)) pgs_nil)))))))
(pss_cons (ps_if (pt_cmpR op_ge (pe_fldK K (pv 0) rfl) (pv 4) (nomark _))
(pss_one (ps_ret (pe_tup (pa_cons (pv 0) (pa_cons (pe_tup (pa_cons pe_str (pa_cons (pe_tup (pa_cons (pv 8) (pa_cons (pv 9) (pa_cons (pe_op op_add (pe_fldK K (pv 0) rfl) pe_int) pa_nil)))) pa_nil))) pa_nil)))))
pss_nil)
(pss_cons (ps_if (pt_cmpR op_eq (pv 1) pe_str (nomark _))
(pss_one (ps_ret (pe_tup (pa_cons (pv 0) (pa_cons (pe_tup (pa_cons pe_str (pa_cons (pe_tup (pa_cons (pv 8) (pa_cons (pv 9) (pa_cons (pe_meth (pv 0) AH.cl MHK GHK hr7 bHK .nil pass0 (pa_cons (pv 6) pa_nil)) pa_nil)))) pa_nil))) pa_nil)))))
pss_nil)
(pss_one (ps_ret (pe_tup (pa_cons (pe_call GKp hr10 (by rfl) gKp kKp bKp .nil pass0 (pa_cons (pv 0) (pa_cons (pv 6) (pa_cons (pe_ix (ix_seqK K) (pv 2) pe_int (fun _ _ => rfl)) (pa_cons (pv 3) pa_nil))))) (pa_cons (pe_tup (pa_cons pe_str (pa_cons (pe_tup (pa_cons (pv 8) (pa_cons (pv 9) pa_nil))) pa_nil))) pa_nil)))))))))), ?_⟩
    refine ⟨_, rfl, rfl, _, rfl, ?_⟩
    cases l with
    | sweep e key t =>
      rw [show decide (V.str (Ltr.sweep e key t).word = V.str "fence") = false from w_ne "sweep" (by decide)]
      refine iteF ⟨_, rfl, rfl, _, rfl, ?_⟩
      rw [show decide (V.str (Ltr.sweep e key t).word = V.str "sweep") = true from decide_eq_true rfl]
      obtain ⟨b, hp, kt⟩ := pt
      refine iteT ⟨.ref r, rfl, r, _, rfl, hp, rfl, _, _, rfl, _, _, rfl, _, _, rfl, rfl, ?_⟩
      refine ⟨.ref h, rfl, .int key, rfl, .ref b, rfl, .ref cr, rfl, h, key, b, cr, d, p, c, f, kvs, ks, t, cs, rfl, hg, lok.1, kt, lok.2, hc, fun a d' kvs' ks' H1 s1 hg1 nd1 => ?_⟩
      refine ⟨_, rfl, _, rfl, by show 2 ≤ sizeLine; decide, fun q1 hq1 => ⟨by show 2 ≤ sizeLine; decide, fun w1 hw1 => ⟨by show 2 ≤ sizeLine; decide, fun z hz => ?_⟩⟩⟩
      obtain ⟨H4, e4, s4, z4, w4, q4⟩ := tup3 (a := a) hq1 hw1 hz
      rw [e4]
      exact q z a w1 d' kvs' ks' H4 (s1.trans s4) z4 (hg1.mono s4) ⟨q1, w4, q4⟩ nd1
    | hear a m e key =>
      rw [show decide (V.str (Ltr.hear a m e key).word = V.str "fence") = false from w_ne "hear" (by decide)]
      refine iteF ⟨_, rfl, rfl, _, rfl, ?_⟩
      rw [show decide (V.str (Ltr.hear a m e key).word = V.str "sweep") = false from w_ne2 "hear" (by decide)]
      refine iteF ?_
      refine ⟨.ref r, rfl, 4, rfl, slA_go pt fun r1 H1 hp s1 => ?_⟩
      refine ⟨r1, _, rfl, hp, rfl, _, _, rfl, _, _, rfl, _, _, rfl, _, _, rfl, rfl, ?_⟩
      refine ⟨.ref h, rfl, h, CH, dx, _, .int c, rfl, s1 _ _ ha, AH.cl, no _ (by decide), rfl, .int e, rfl, c, e, rfl, rfl, _, rfl, ?_⟩
      have q := fun z a w d' kvs' ks' H' (s : Same H1 H') e g x (nd : d' = d ∨ H1 d' = none) => q z a w d' kvs' ks' H' (s1.trans s) e g x (nd.imp id s1.free)
      cases ec : decide (e ≤ c) with
      | true =>
        have eA : stepA c f ks (.hear a m e key) = .refused a m (c + 1) := by
          show (if decide (e ≤ c) = true then _ else _) = _
          rw [if_pos ec]
        refine iteT ⟨.ref h, rfl, _, rfl, _, rfl, .ref h, rfl, h, CH, dx, _, .int c, rfl, s1 _ _ ha, AH.cl, no _ (by decide), rfl, c, 1, rfl, rfl, by show 3 ≤ sizeLine; decide, fun q1 hq1 => ⟨by show 2 ≤ sizeLine; decide, fun w1 hw1 => ⟨by show 2 ≤ sizeLine; decide, fun z hz => ?_⟩⟩⟩
        obtain ⟨H4, e4, s4, z4, w4, q4⟩ := tup3 (a := h) hq1 hw1 hz
        rw [e4]
        exact q z h w1 d kvs ks H4 s4 z4 ((hg.mono s1).mono s4) (by rw [eA]; exact ⟨q1, w4, q4⟩) (.inl rfl)
      | false =>
        have eA : stepA c f ks (.hear a m e key) = .heard a m (f key) := by
          show (if decide (e ≤ c) = true then _ else _) = _
          rw [if_neg (by rw [ec]; exact Bool.false_ne_true)]
        refine iteF ⟨_, rfl, rfl, _, rfl, ?_⟩
        rw [show decide (V.str (Ltr.hear a m e key).word = V.str "hear") = true from decide_eq_true rfl]
        refine iteT ⟨.ref h, rfl, _, rfl, _, rfl, .ref h, rfl, h, dx, _, rfl, s1 _ _ ha, rfl, .int key, rfl, h, .int key, .int key, d, p, c, f, kvs, ks, rfl, .int key, trivial, hg.l.mono s1, fun i ei hi b H2 s2 kt => ?_, fun z => absurd (within_pl (u_pl key lok)) (by rw [z]; exact Bool.false_ne_true)⟩
        cases ei
        refine ⟨by show 3 ≤ sizeLine; decide, fun q1 hq1 => ⟨by show 2 ≤ sizeLine; decide, fun w1 hw1 => ⟨by show 2 ≤ sizeLine; decide, fun z hz => ?_⟩⟩⟩
        obtain ⟨H4, e4, s4, z4, w4, q4⟩ := tup3 (a := h) hq1 hw1 hz
        rw [e4]
        exact q z h w1 d kvs ks H4 (s2.trans s4) z4 (((hg.mono s1).mono s2).mono s4) (by rw [eA]; exact ⟨q1, b, w4, q4, kt.mono s4⟩) (.inl rfl)
    | keep a m e key t =>
      rw [show decide (V.str (Ltr.keep a m e key t).word = V.str "fence") = false from w_ne "keep" (by decide)]
      refine iteF ⟨_, rfl, rfl, _, rfl, ?_⟩
      rw [show decide (V.str (Ltr.keep a m e key t).word = V.str "sweep") = false from w_ne2 "keep" (by decide)]
      refine iteF ?_
      obtain ⟨b, pt, kt⟩ := pt
      refine ⟨.ref r, rfl, 4, rfl, slA_go pt fun r1 H1 hp s1 => ?_⟩
      refine ⟨r1, _, rfl, hp, rfl, _, _, rfl, _, _, rfl, _, _, rfl, _, _, rfl, rfl, ?_⟩
      refine ⟨.ref h, rfl, h, CH, dx, _, .int c, rfl, s1 _ _ ha, AH.cl, no _ (by decide), rfl, .int e, rfl, c, e, rfl, rfl, _, rfl, ?_⟩
      have q := fun z a w d' kvs' ks' H' (s : Same H1 H') e g x (nd : d' = d ∨ H1 d' = none) => q z a w d' kvs' ks' H' (s1.trans s) e g x (nd.imp id s1.free)
      cases ec : decide (e ≤ c) with
      | true =>
        have eA : stepA c f ks (.keep a m e key t) = .refused a m (c + 1) := by
          show (if decide (e ≤ c) = true then _ else _) = _
          rw [if_pos ec]
        have eF : stepF c f cs (.keep a m e key t) = f := by
          show (if decide (e ≤ c) = true then f else _) = _
          rw [if_pos ec]
        refine iteT ⟨.ref h, rfl, _, rfl, _, rfl, .ref h, rfl, h, CH, dx, _, .int c, rfl, s1 _ _ ha, AH.cl, no _ (by decide), rfl, c, 1, rfl, rfl, by show 3 ≤ sizeLine; decide, fun q1 hq1 => ⟨by show 2 ≤ sizeLine; decide, fun w1 hw1 => ⟨by show 2 ≤ sizeLine; decide, fun z hz => ?_⟩⟩⟩
        obtain ⟨H4, e4, s4, z4, w4, q4⟩ := tup3 (a := h) hq1 hw1 hz
        rw [e4]
        exact q z h w1 d kvs ks H4 s4 z4 (by rw [eF]; exact (hg.mono s1).mono s4) (by rw [eA]; exact ⟨q1, w4, q4⟩) (.inl rfl)
      | false =>
        have eA : stepA c f ks (.keep a m e key t) = .kept a m := by
          show (if decide (e ≤ c) = true then _ else _) = _
          rw [if_neg (by rw [ec]; exact Bool.false_ne_true)]
        have eF : stepF c f cs (.keep a m e key t) = keepF f key t cs := by
          show (if decide (e ≤ c) = true then f else _) = _
          rw [if_neg (by rw [ec]; exact Bool.false_ne_true)]
        refine iteF ⟨_, rfl, rfl, _, rfl, ?_⟩
        rw [show decide (V.str (Ltr.keep a m e key t).word = V.str "hear") = false from w_ne3]
        refine iteF ⟨.ref h, rfl, .int key, rfl, .ref r, rfl, Sq.ix (.inr (sqT_mono s1 pt)) (at_nat (i := 4) rfl) ?_⟩
        refine ⟨.ref cr, rfl, h, key, b, cr, d, p, c, f, kvs, ks, t, cs, rfl, hg.mono s1, lok.1, kt.mono s1, lok.2, hc.mono s1, fun a' d' kvs' ks' H2 s2 hg2 nd2 => ?_⟩
        refine ⟨_, rfl, _, rfl, by show 2 ≤ sizeLine; decide, fun q1 hq1 => ⟨by show 2 ≤ sizeLine; decide, fun w1 hw1 => ⟨by show 2 ≤ sizeLine; decide, fun z hz => ?_⟩⟩⟩
        obtain ⟨H4, e4, s4, z4, w4, q4⟩ := tup3 (a := a') hq1 hw1 hz
        rw [e4]
        exact q z a' w1 d' kvs' ks' H4 (s2.trans s4) z4 (by rw [eF]; exact hg2.mono s4) (by rw [eA]; exact ⟨q1, w4, q4⟩) nd2
    | fence e =>
      rw [show decide (V.str (Ltr.fence e).word = V.str "fence") = true from decide_eq_true rfl]
      refine iteT ⟨.ref r, rfl, Sq.ix (.inr pt) (at_nat (i := 0) rfl) ?_⟩
      refine ⟨d, _, hg.d, True.intro, fun od => ?_⟩
      have had : h ≠ d := fun z => by rw [z, hg.d] at ha; cases ha
      have haL : upd H d (.frz od (.dK kvs)) h = some (.ins CH dx [("place", .int p), ("closed", .int c), ("_kepts", .ref d)]) := by rw [upd_ne had]; exact ha
      have kvL : KvsAt K CK (upd H d (.frz od (.dK kvs))) f kvs ks := kvs_updR (.inl hg.d) hg.l.kv
      have dL : upd H d (.frz od (.dK kvs)) d = some (.frz od (.dK kvs)) := upd_same
      have offd : ∀ b, b ≠ d → upd H d (.frz od (.dK kvs)) b = H b := fun b hb => upd_ne hb
      generalize upd H d (.frz od (.dK kvs)) = HL at haL kvL dL offd ⊢
      have lk : kvs.length = ks.length := Paired.length kvL
      refine ⟨.ref h, rfl, h, CH, dx, _, .ref d, rfl, haL, AH.cl, no _ (by decide), rfl, d, od, rfl, .inl ⟨kvs, dL, fun D hD => ?_⟩⟩
      have neD : ∀ b o, HL b = some o → b ≠ D := fun b o e z => by rw [z, hD] at e; cases e
      refine lc_it (walk_keys (d := d) (o := od) (kvs := kvs)) (fun i H' => ∃ vs G, H' D = some (.lst vs) ∧ Same G H' ∧ G D = none ∧ Same HL G ∧ Paired (PairAt K CK G) vs ((ks.take i).map fun k => (k, f k))) ⟨[], HL, upd_same, same_new hD, hD, Same.refl HL, .nil⟩ (fun i H' _ ⟨_, G, _, s1, _, s2, _⟩ => s1 _ _ (s2 _ _ dL)) ?_ ?_
      · rintro i x H5 H6 hi ⟨vs, G, c1, c2, c3, c4, c5⟩ ⟨rfl, k, vv, hk, rfl⟩
        have ii : i < ks.length := by rw [← lk]; exact hi
        obtain ⟨j, ej, ek, b, eb, kt⟩ := paired_get kvL hk
        subst ek
        have ej' : ks[i] = j := by
          rw [List.getElem?_eq_getElem ii] at ej
          exact Option.some.inj ej
        have hv : valV kvs (Sum.inl j) = some (.ref b) ∨ True := .inr trivial
        have jm : j ∈ ks := ej' ▸ List.getElem_mem ii
        rcases kvs_val kvL j with ⟨_, b', hv, kt'⟩ | ⟨n, _⟩
        · refine ⟨rfl, yes_go ?_⟩
          refine ⟨_, rfl, .ref h, rfl, h, CH, dx, _, .ref d, rfl, c2 _ _ (c4 _ _ haL), AH.cl, no _ (by decide), rfl, _, rfl, d, .ref b', rfl, .inl ⟨kvs, Sum.inl j, .inr ⟨od, c2 _ _ (c4 _ _ dL)⟩, rfl, hv.symm⟩, by show 2 ≤ sizeLine; decide, fun T hT => ?_⟩
          have TD : T ≠ D := fun z => by rw [z, c1] at hT; cases hT
          have gT : G T = none := c2.free hT
          refine ⟨vs, by rw [upd_ne (Ne.symm TD)]; exact c1, ?_, vs ++ [.ref T], upd G T (.tup [kV (Sum.inl j), .ref b']), upd_same, fun b'' o e => ?_, by rw [upd_ne (Ne.symm TD)]; exact c3, c4.trans (same_new gT), ?_⟩
          · have l1 := Paired.length c5
            rw [List.length_map, List.length_take] at l1
            have l4 := hg.few
            rw [sizeLine_eq]
            omega
          · have nD : b'' ≠ D := fun z => by rw [z, upd_ne (Ne.symm TD), c3] at e; cases e
            rw [upd_ne nD]
            by_cases z : b'' = T
            · rw [z, upd_same] at e ⊢
              exact e
            · rw [upd_ne z] at e ⊢
              exact c2 _ _ e
          · rw [List.take_add_one, ej, Option.toList_some, List.map_append]
            exact Paired.snoc (Paired.mapP c5 fun _ _ z => z.mono (same_new gT)) ⟨T, b', rfl, upd_same, (kt'.mono c4).mono (same_new gT)⟩
        · exact absurd jm n
      · rintro H5 ⟨vs, G, c1, c2, c3, c4, c5⟩
        rw [lk, List.take_length] at c5
        have d5 := c2 _ _ (c4 _ _ dL)
        refine ⟨d5, D, vs, rfl, .inl ⟨?_, fun R hR => ?_⟩⟩
        · refine SqL.of ?_
          rw [upd_ne (fun z => by rw [z, d5] at c1; cases c1)]
          exact c1
        · have Rd_ : R ≠ d := fun z => by rw [z, upd_same] at hR; cases hR
          have sU : Same H (upd H5 d (.dK kvs)) := fun b o e => by
            by_cases hb : b = d
            · rw [hb, upd_same]
              rw [hb, hg.d] at e
              exact e
            · rw [upd_ne hb]
              exact c2 _ _ (c4 _ _ (by rw [offd b hb]; exact e))
          have pU : Paired (PairAt K CK (upd H5 d (.dK kvs))) vs (ks.map fun k => (k, f k)) := Paired.mapP c5 fun _ _ z => pair_updR (.inr ⟨od, d5⟩) (z.mono c2)
          generalize upd H5 d (.dK kvs) = HU at hR sU pU ⊢
          have sR := same_new (o := .tup vs) hR
          have hR2 : upd HU R (.tup vs) R = some (.tup vs) := upd_same
          generalize upd HU R (.tup vs) = HR at sR hR2 ⊢
          have sA : Same H HR := sU.trans sR
          have haR := sA _ _ ha
          refine ⟨.ref h, rfl, .ref h, rfl, h, CH, dx, _, .int c, rfl, haR, AH.cl, no _ (by decide), rfl, .int e, rfl, c, e, rfl, .ref h, rfl, h, CH, dx, _, .ref d, rfl, haR, AH.cl, no _ (by decide), rfl, ?_⟩
          refine ⟨h, d, p, c, maxI c e, f, f, d, kvs, ks, kvs, ks, rfl, hg.l.mono sA, hg.pl, sA _ _ hg.d, hg.l.kv.mono sA, hg.nd, by have := hg.few; omega, hg.l.iff, fun ks' a d' kvs' H6 pm pw s6 hl' hd' hnd => ?_⟩
          refine ⟨_, rfl, _, rfl, by show 2 ≤ sizeLine; decide, fun q1 hq1 => ⟨by show 2 ≤ sizeLine; decide, fun w1 hw1 => ⟨by show 2 ≤ sizeLine; decide, fun z hz => ?_⟩⟩⟩
          obtain ⟨H4, e4, s4, z4, w4, q4⟩ := tup3 (a := a) hq1 hw1 hz
          rw [e4]
          have sB : Same HR H4 := s6.trans s4
          exact q z a w1 d' kvs' ks' H4 (sA.trans sB) z4 ⟨hl'.mono s4, s4 _ _ hd', hg.ok, hg.pl, fun j m => hg.kpl j (pm.mem_iff.mp m), pm.nodup_iff.mpr hg.nd, pw⟩ ⟨q1, R, vs, w4, q4, sB _ _ hR2, Paired.mapP pU fun _ _ z => z.mono (sR.trans sB)⟩ (.inr (sA.free hnd))
end
end K27
end

section
set_option Elab.async false
set_option linter.all false
set_option maxRecDepth 100000
set_option maxHeartbeats 4000000
/-! what the law draws of what is kept -/
namespace K27
open PySem PySem.Spec L2 KZ
abbrev sLK : Stmt := top 27
abbrev sLM : Stmt := top 28
def T3.v2 : T3 → V
  | .no => .non
  | .so _ _ p _ => .int p
def T3.v3 : T3 → V
  | .no => .non
  | .so _ _ _ v => .int v
/-- the law's tuple of what is kept -/
def TpAt (H : Hp) (a : Addr) (t : T3) : Prop := ∃ s, H a = some (.tup [.ref s, t.v2, t.v3]) ∧ H s = some (.tup [.int t.st.1, .str t.st.2])
theorem TpAt.mono {H H' : Hp} {a : Addr} {t : T3} (s : Same H H') (h : TpAt H a t) : TpAt H' a t := let ⟨q, h1, h2⟩ := h; ⟨q, s _ _ h1, s _ _ h2⟩
def spLK : Sp := fun vs H Q _ => ∃ (p c : Addr) (cells : List Int) (n : Nat), vs = [.ref p] ∧ PenAt H p c cells n ∧ n ≤ 9000 ∧ ∀ t a H', t.Ok → PenAt H' p c cells (n + 4) → Kept p H H' → TpAt H' a t → Q (.ref a) H'
def spLM (K : PySem.W.Frag) (CK : Addr) : Sp := fun vs H Q _ => ∃ a t, vs = [.ref a] ∧ TpAt H a t ∧ ∀ b H', Same H H' → KtAt K CK H' b t → Q (.ref b) H'
theorem PenAt.nn {H : Hp} {p c : Addr} {cells : List Int} {n : Nat} (h : PenAt H p c cells n) {a : Addr} (ha : H a = none) : a ≠ p ∧ a ≠ c := by
  obtain ⟨x, g, hp, _⟩ := h.ex
  refine ⟨fun z => ?_, fun z => ?_⟩
  · rw [z, hp] at ha
    cases ha
  · rw [z, h.cs] at ha
    cases ha
theorem PenAt.more {H : Hp} {p c : Addr} {cells : List Int} {n m : Nat} (h : PenAt H p c cells n) (hn : n ≤ m) : PenAt H p c cells m := h.mono (Same.refl H) hn
section
variable {P : Program} {w : World} {K : PySem.W.Frag} {mg : Str → Option Value} {base : Heap} {CK fD fO : Addr} {dD dO : FuncData}
theorem scLK : FnScope ["well", "number"] ["well"] (defScope sLK) := ⟨rfl, rfl, rfl, by decide +kernel, rfl, by decide +kernel, by decide +kernel⟩
theorem scLM : FnScope ["told"] ["told"] (defScope sLM) := ⟨rfl, rfl, rfl, by decide +kernel, rfl, by decide +kernel, by decide +kernel⟩
theorem ok_lk {f : Addr} {fd : FuncData} (F : Fun K "_law_kept" "_law_kept" sLK f fd) (draw : Cal P w K mg base "_law_draw" 1 ["well", "many"] spDraw) (one : Cal P w K mg base "_law_one" 2 ["well", "some"] spOne) : FnOk P w K mg base CX0 3 f fd ["well"] spLK := by
  obtain ⟨fD, dD, gD, GD, kD, bD⟩ := draw.ex
  obtain ⟨fO, dO, gO, GO, kO, bO⟩ := one.ex
  refine F.ok scLK (fun vs H Q E h => ?_) (fun cdv A' outer s H vs Q E hr h => ?_)
  · obtain ⟨p, c, cells, n, rfl, _⟩ := h
    rfl
  · obtain ⟨p, c, cells, n, rfl, pen, hn, q⟩ := h
    have hr2 : Room 2 _ := hr
    have hr1 : Room 1 _ := hr.mono (by decide)
    refine ⟨_, (pss_cons (ps_set (i := 1) scLK.nd rfl (Or.inl rfl) (pe_call GD hr1 (by rfl) gD kD bD .nil pass0 (pa_cons (pv 0) (pa_cons pe_int pa_nil))))
(pss_cons (ps_if (pt_cmpR op_eq (pv 1) pe_int (nomark _))
(pss_one (ps_ret (pe_tup (pa_cons (pe_tup (pa_cons pe_int (pa_cons pe_str pa_nil))) (pa_cons pe_non (pa_cons pe_non pa_nil))))))
pss_nil)
(pss_one (ps_ret (pe_tup (pa_cons (pe_tup (pa_cons (pv 1) (pa_cons (pe_call GO hr2 (by rfl) gO kO bO .nil pass0 (pa_cons (pv 0) (pa_cons (pe_lst (pa_cons pe_str (pa_cons pe_str (pa_cons pe_str pa_nil)))) pa_nil))) pa_nil))) (pa_cons (pe_call GD hr1 (by rfl) gD kD bD .nil pass0 (pa_cons (pv 0) (pa_cons pe_int pa_nil))) (pa_cons (pe_op op_sub (pe_call GD hr1 (by rfl) gD kD bD .nil pass0 (pa_cons (pv 0) (pa_cons pe_int pa_nil))) pe_int) pa_nil)))))))), ?_⟩
    refine ⟨.ref p, rfl, p, c, cells, n, 4, rfl, pen, by omega, by decide, by decide, fun r H1 r0 r1 pen1 kp1 => ?_⟩
    refine ⟨_, rfl, rfl, _, rfl, ?_⟩
    rw [dI]
    by_cases hz : r = 0
    · subst hz
      rw [decide_eq_true rfl]
      refine iteT ⟨by show 2 ≤ sizeLine; decide, fun S hS => ⟨by show 3 ≤ sizeLine; decide, fun a ha => ?_⟩⟩
      have s2 := (same_new (o := .tup [.int 0, .str ""]) hS).trans (same_new (o := .tup [.ref S, .non, .non]) ha)
      exact q .no a _ trivial (pen1.mono s2 (by omega)) (kp1.trans (Kept.of s2)) ⟨S, upd_same, same_new ha _ _ upd_same⟩
    · rw [decide_eq_false hz]
      refine iteF ⟨.int r, rfl, .ref p, rfl, by show 3 ≤ sizeLine; decide, fun L hL => ?_⟩
      have sL := same_new (o := .lst [.str "ann", .str "bob", .str "al"]) hL
      have nL := pen1.nn hL
      refine ⟨p, c, L, cells, n + 1, _, rfl, pen1.mono sL (Nat.le_refl _), by omega, upd_same, nL.1, by decide, by decide, fun i x H2 hx pen2 kp2 => ?_⟩
      obtain ⟨x', rfl, hm⟩ : ∃ x', x = .str x' ∧ x' ∈ nmL := by
        match i, hx with
        | 0, hx => exact ⟨"ann", (Option.some.inj hx).symm, by decide⟩
        | 1, hx => exact ⟨"bob", (Option.some.inj hx).symm, by decide⟩
        | 2, hx => exact ⟨"al", (Option.some.inj hx).symm, by decide⟩
      refine ⟨by show 2 ≤ sizeLine; decide, fun S hS => ?_⟩
      have sS := same_new (o := .tup [.int r, .str x']) hS
      have hS1 : upd H2 S (.tup [.int r, .str x']) S = some (.tup [.int r, .str x']) := upd_same
      have nS := (pen2.nn hS).1
      have pen3 := pen2.mono sS (Nat.le_refl _)
      have kp3 := (kp1.trans (Kept.of sL)).trans (kp2.trans (Kept.of sS))
      generalize upd H2 S (.tup [.int r, .str x']) = H3 at sS hS1 pen3 kp3 ⊢
      refine ⟨.ref p, rfl, p, c, cells, _, 5, rfl, pen3, by omega, by decide, by decide, fun p1 H4 a0 a1 pen4 kp4 => ?_⟩
      refine ⟨.ref p, rfl, p, c, cells, _, 9, rfl, pen4, by omega, by decide, by decide, fun v1 H5 b0 b1 pen5 kp5 => ?_⟩
      refine ⟨_, _, rfl, rfl, by show 3 ≤ sizeLine; decide, fun a ha => ?_⟩
      have sa := same_new (o := .tup [.ref S, .int p1, .int (v1 - 4)]) ha
      obtain ⟨rn, rfl⟩ : ∃ rn : Nat, r = rn := ⟨r.toNat, by omega⟩
      refine q (.so rn x' p1 (v1 - 4)) a _ ⟨by omega, by omega, hm, by omega, by omega, by omega, by omega⟩ (pen5.mono sa (by omega)) (kp3.trans (kp4.trans (kp5.trans (Kept.of sa)))) ⟨S, upd_same, sa _ _ (kp5 _ _ nS (kp4 _ _ nS hS1))⟩
theorem ok_lm {f : Addr} {fd : FuncData} (F : Fun K "_law_made" "_law_made" sLM f fd) (A : ClsF K mg "Kept" CK kF) (M : MkC P w K mg base CK kF) : FnOk P w K mg base CX0 5 f fd ["told"] (spLM K CK) := by
  obtain ⟨fI, dI, MK, GI, bI⟩ := M.ex 0
  refine F.ok scLM (fun vs H Q E h => ?_) (fun cdv A' outer s H vs Q E hr h => ?_)
  · obtain ⟨a, t, rfl, _⟩ := h
    rfl
  · obtain ⟨a, t, rfl, ⟨S, ha, hS⟩, q⟩ := h
    have hr3 : Room 4 _ := hr
    refine ⟨_, (pss_one (ps_ret (pe_make MK GI hr3 (by rfl) A.g bI .nil pass0 (pa_cons (pe_ix (ix_seqK K) (pv 0) pe_int (fun _ _ => rfl)) (pa_cons (pe_ix (ix_seqK K) (pv 0) pe_int (fun _ _ => rfl)) (pa_cons (pe_ix (ix_seqK K) (pv 0) pe_int (fun _ _ => rfl)) pa_nil)))))), ?_⟩
    have sq : Sq K H a [.ref S, t.v2, t.v3] := .inr (SqT.of ha)
    refine ⟨.ref a, rfl, sq.ix (at_nat (i := 0) rfl) ⟨.ref a, rfl, sq.ix (at_nat (i := 1) rfl) ⟨.ref a, rfl, sq.ix (at_nat (i := 2) rfl) (fun x dx hx hdx ne => ?_)⟩⟩⟩
    refine kt_go hx hdx ne (.tup (SqT.of (off_at hS fun _ _ z => nomatch z)) (.cons (.int _) (.cons (.str _) .nil))) ?_ ?_ fun H' s' at_ => q x H' s' at_
    · cases t <;> first | exact .non | exact .int _
    · cases t <;> first | exact .non | exact .int _
end
end K27
end

section
set_option Elab.async false
set_option linter.all false
set_option maxRecDepth 100000
set_option maxHeartbeats 4000000
/-! the law's own store -/
namespace K27
open PySem PySem.Spec L2 KZ
abbrev sLS : Stmt := top 31
def PvsAt (H : Hp) (f : Int → T3) (kvs : List (Key × V)) (ks : List Int) : Prop := Paired (fun (p : Key × V) (k : Int) => p.1 = Sum.inl k ∧ ∃ b, p.2 = V.ref b ∧ TpAt H b (f k)) kvs ks
theorem PvsAt.mono {H H' : Hp} {f : Int → T3} {kvs : List (Key × V)} {ks : List Int} (s : Same H H') (h : PvsAt H f kvs ks) : PvsAt H' f kvs ks := Paired.mapP h fun _ _ ⟨e, b, e2, k⟩ => ⟨e, b, e2, k.mono s⟩
theorem tp_upd {H : Hp} {d a : Addr} {t : T3} {kvs : List (Key × V)} {o : HO} (hd : H d = some (.dK kvs)) (h : TpAt H a t) : TpAt (upd H d o) a t := by
  obtain ⟨s, h1, h2⟩ := h
  refine ⟨s, ?_, ?_⟩
  · rw [upd_ne (fun z => by rw [z, hd] at h1; cases h1)]
    exact h1
  · rw [upd_ne (fun z => by rw [z, hd] at h2; cases h2)]
    exact h2
theorem pvs_upd {H : Hp} {d : Addr} {kvs : List (Key × V)} {o : HO} {f : Int → T3} {ka : List (Key × V)} {ks : List Int} (hd : H d = some (.dK kvs)) (h : PvsAt H f ka ks) : PvsAt (upd H d o) f ka ks := Paired.mapP h fun _ _ ⟨e, b, e2, k⟩ => ⟨e, b, e2, tp_upd hd k⟩
theorem pvs_val {H : Hp} {f : Int → T3} {kvs : List (Key × V)} {ks : List Int} (h : PvsAt H f kvs ks) (k : Int) : (k ∈ ks ∧ ∃ b, valV kvs (Sum.inl k) = some (.ref b) ∧ TpAt H b (f k)) ∨ (k ∉ ks ∧ valV kvs (Sum.inl k) = none) := by
  unfold PvsAt at h
  induction h with
  | nil => exact .inr ⟨List.not_mem_nil, rfl⟩
  | @cons p j ps js hh _ ih =>
    obtain ⟨e, b, e2, kt⟩ := hh
    by_cases hk : j = k
    · subst hk
      exact .inl ⟨List.mem_cons_self, b, by rw [valV_pos e, e2], kt⟩
    · have ne : ¬ p.1 = Sum.inl k := fun z => hk (Sum.inl.inj (e.symm.trans z))
      rcases ih with ⟨m, b', v, kt'⟩ | ⟨m, v⟩
      · exact .inl ⟨List.mem_cons_of_mem _ m, b', by rw [valV_neg ne]; exact v, kt'⟩
      · exact .inr ⟨fun z => (List.mem_cons.mp z).elim (fun y => hk y.symm) m, by rw [valV_neg ne]; exact v⟩
/-- the law's store: what is closed, what is kept -/
structure PlainAt (H : Hp) (a dk : Addr) (c : Int) (f : Int → T3) (kvs : List (Key × V)) (ks : List Int) : Prop where
  a : H a = some (.dK [(Sum.inr "closed", .int c), (Sum.inr "kept", .ref dk)])
  d : H dk = some (.dK kvs)
  kv : PvsAt H f kvs ks
  iff : ∀ k, k ∈ ks ↔ f k ≠ .no
  nd : ks.Nodup
  sub : ∀ k ∈ ks, k ∈ keyU
  ok : ∀ k, (f k).Ok
theorem PlainAt.mono {H H' : Hp} {a dk : Addr} {c : Int} {f : Int → T3} {kvs : List (Key × V)} {ks : List Int} (s : Same H H') (h : PlainAt H a dk c f kvs ks) : PlainAt H' a dk c f kvs ks := ⟨s _ _ h.a, s _ _ h.d, h.kv.mono s, h.iff, h.nd, h.sub, h.ok⟩
theorem PlainAt.ne {H : Hp} {a dk : Addr} {c : Int} {f : Int → T3} {kvs : List (Key × V)} {ks : List Int} (h : PlainAt H a dk c f kvs ks) : a ≠ dk := fun z => by
  have e := h.a
  rw [z, h.d] at e
  cases e
  cases h.kv with
  | cons p _ => cases p.1
/-- putK, dropK of such a dict -/
theorem pvs_put {H : Hp} {f : Int → T3} {key : Int} {t : T3} {b : Addr} (ht : TpAt H b t) : ∀ {kvs : List (Key × V)} {ks : List Int}, PvsAt H f kvs ks → ks.Nodup → ∃ ks', PvsAt H (putT f key t) (putK kvs (Sum.inl key) (.ref b)) ks' ∧ ks'.Nodup ∧ ∀ j, j ∈ ks' ↔ j ∈ ks ∨ j = key := by
  intro kvs ks h nd
  rcases pvs_val h key with ⟨m, hb0⟩ | ⟨n, hv⟩
  · clear hb0
    refine ⟨ks, ?_, nd, fun j => ⟨.inl, fun z => z.elim id fun e => e ▸ m⟩⟩
    have any : (kvs.any fun kv => decide (kv.1 = (Sum.inl key : Key))) = true := by
      rw [List.any_eq_true]
      clear nd
      unfold PvsAt at h
      induction h with
      | nil => cases m
      | @cons p j ps js hh _ ih =>
        rcases List.mem_cons.mp m with e | m
        · exact ⟨p, List.mem_cons_self, decide_eq_true (by rw [hh.1, e])⟩
        · obtain ⟨q, hq, e⟩ := ih m
          exact ⟨q, List.mem_cons_of_mem _ hq, e⟩
    unfold putK
    rw [if_pos any]
    clear any m nd
    unfold PvsAt at h ⊢
    induction h with
    | nil => exact .nil
    | @cons p j ps js hh _ ih =>
      rw [List.map_cons]
      refine .cons ?_ ih
      obtain ⟨e, b0, e2, k⟩ := hh
      show (if p.1 = (Sum.inl key : Key) then (p.1, V.ref b) else p).1 = Sum.inl j ∧ _
      by_cases hj : j = key
      · rw [if_pos (by rw [e, hj])]
        refine ⟨e, b, rfl, ?_⟩
        show TpAt H b (if j = key then t else f j)
        rw [if_pos hj]
        exact ht
      · rw [if_neg (fun z => hj (Sum.inl.inj (e.symm.trans z)))]
        refine ⟨e, b0, e2, ?_⟩
        show TpAt H b0 (if j = key then t else f j)
        rw [if_neg hj]
        exact k
  · refine ⟨ks ++ [key], ?_, List.nodup_append.mpr ⟨nd, by simp, fun a ha b hb e => by
      rw [List.mem_singleton] at hb
      subst hb
      subst e
      exact n ha⟩, fun j => by rw [List.mem_append, List.mem_singleton]⟩
    rw [putK_new hv]
    refine Paired.snoc ?_ ⟨rfl, b, rfl, by show TpAt H b (if key = key then t else f key); rw [if_pos rfl]; exact ht⟩
    clear hv nd
    unfold PvsAt at h
    induction h with
    | nil => exact .nil
    | @cons p j ps js hh _ ih =>
      obtain ⟨e, b0, e2, k⟩ := hh
      refine .cons ⟨e, b0, e2, ?_⟩ (ih fun m => n (List.mem_cons_of_mem _ m))
      show TpAt H b0 (if j = key then t else f j)
      rw [if_neg (fun z => n (by rw [z]; exact List.mem_cons_self))]
      exact k
theorem pvs_drop {H : Hp} {f g : Int → T3} {key : Int} (fg : ∀ j, j ≠ key → f j = g j) : ∀ {kvs : List (Key × V)} {ks : List Int}, PvsAt H f kvs ks → PvsAt H g (dropK kvs (Sum.inl key)) (offK ks key) := by
  intro kvs ks h
  unfold PvsAt at h ⊢
  induction h with
  | nil => exact .nil
  | @cons p j ps js hh _ ih =>
    obtain ⟨e, b0, e2, k⟩ := hh
    unfold dropK offK at ih ⊢
    rw [List.filter_cons, List.filter_cons]
    by_cases hj : j = key
    · rw [if_neg (by rw [e, hj]; simp), if_neg (by rw [hj]; simp)]
      exact ih
    · rw [if_pos (by rw [e]; simpa using hj), if_pos (by simpa using hj)]
      exact .cons ⟨e, b0, e2, by rw [← fg j hj]; exact k⟩ ih
def spLS (K : PySem.W.Frag) : Sp := fun vs H Q _ => ∃ pl key td cr dk c f kvs ks t cs, vs = [.ref pl, .int key, .ref td, .ref cr] ∧ PlainAt H pl dk c f kvs ks ∧ key ∈ keyU ∧ TpAt H td t ∧ t.Ok ∧ Sq K H cr (cs.map V.str) ∧
  ∀ kvs' ks' H', (∀ b o, b ≠ dk → H b = some o → H' b = some o) → PlainAt H' pl dk c (keepF f key t cs) kvs' ks' → Q .non H'
theorem ife_go {c : Bool} {A B : TE} {σ : L2.St} {H : Hp} {Q : VK} (v : V) (hA : c = true → ∀ Q : VK, Q v H → A σ H Q) (hB : c = false → ∀ Q : VK, Q v H → B σ H Q) (rest : Q v H) : if c = true then A σ H Q else B σ H Q := by
  cases c with
  | true => exact iteT (hA rfl Q rest)
  | false => exact iteF (hB rfl Q rest)
theorem ifO_go {t u : TT} {s1 : TS} {D : Ends} {σ : L2.St} {H : Hp} (b1 b2 : Bool) (h1 : ∀ Q : Bool → Hp → Prop, Q b1 H → t σ H Q) (h2 : ∀ Q : Bool → Hp → Prop, Q b2 H → u σ H Q) (go : (b1 || b2) = true → s1 D σ H) (tail : (b1 || b2) = false → D.nx σ H) :
    tIfS (tOr t u) s1 tNext D σ H := by
  refine h1 _ ?_
  cases b1 with
  | true => exact iteT (iteT (go rfl))
  | false =>
    refine iteF (h2 _ ?_)
    cases b2 with
    | true => exact iteT (go rfl)
    | false => exact iteF (tail rfl)
section
variable {P : Program} {w : World} {K : PySem.W.Frag} {mg : Str → Option Value} {base : Heap}
theorem scLS : FnScope ["plain", "key", "told", "cares", "mine", "above", "kept"] ["plain", "key", "told", "cares"] (defScope sLS) := ⟨rfl, rfl, rfl, by decide +kernel, rfl, by decide +kernel, by decide +kernel⟩
theorem ok_ls {f : Addr} {fd : FuncData} (F : Fun K "_law_stored" "_law_stored" sLS f fd) (T : B1 mg) : FnOk P w K mg base CX0 1 f fd ["plain", "key", "told", "cares"] (spLS K) := by
  refine F.ok scLS (fun vs H Q E h => ?_) (fun cdv A' outer s H vs Q E hr h => ?_)
  · obtain ⟨pl, key, td, cr, dk, c, f, kvs, ks, t, cs, rfl, _⟩ := h
    rfl
  · obtain ⟨pl, key, td, cr, dk, c, f, kvs, ks, t, cs, rfl, pa, hkey, ht, tok, hc, q⟩ := h
    refine ⟨_, (pss_cons (ps_set (i := 4) scLS.nd rfl (Or.inl rfl) (pe_dget2 (hu_of hr) (pe_dget (hu_of hr) (pv 0) pe_str (fun _ _ => rfl)) (pv 1) (pe_tup (pa_cons (pe_tup (pa_cons pe_int (pa_cons pe_str pa_nil))) (pa_cons pe_non (pa_cons pe_non pa_nil)))) ⟨rfl, rfl, rfl, rfl⟩))
(pss_cons (ps_set (i := 5) scLS.nd rfl (Or.inl rfl) (pe_ifExp (pt_cmpR (op_in_seqK K) pe_str (pv 3) (by rfl)) (pe_cmpR op_gt (pe_ix (ix_seqK K) (pe_ix (ix_seqK K) (pv 2) pe_int (fun _ _ => rfl)) pe_int (fun _ _ => rfl)) (pe_ix (ix_seqK K) (pe_ix (ix_seqK K) (pv 4) pe_int (fun _ _ => rfl)) pe_int (fun _ _ => rfl)) (nomark _)) (pe_cmpR (op_gtIS hr.units0) (pe_ix (ix_seqK K) (pv 2) pe_int (fun _ _ => rfl)) (pe_ix (ix_seqK K) (pv 4) pe_int (fun _ _ => rfl)) (nomark _))))
(pss_cons (ps_set (i := 6) scLS.nd rfl (Or.inl rfl) (pe_dget (hu_of hr) (pv 0) pe_str (fun _ _ => rfl)))
(pss_one (ps_if (PW.pt (pw_or (pt_cmpR (op_in_seqK K) pe_str (pv 3) (by rfl)) (pw_or1 (pt_val (pv 5)))))
(pss_cons (ps_dput (hu_of hr) (pv 6) (pv 1) (pv 2) rfl)
(pss_one (ps_if (pt_cmpR (op_eqD hr.units) (pe_ix (ix_seqK K) (pv 2) pe_int (fun _ _ => rfl)) (pe_tup (pa_cons pe_int (pa_cons pe_str pa_nil))) (nomark _))
(pss_one (ps_expr (pe_dpop1 (pv 6) (pv 1) ⟨rfl, rfl, rfl, rfl⟩)))
pss_nil)))
pss_nil))))), ?_⟩
    obtain ⟨sT, ht1, ht2⟩ := ht
    refine ⟨.ref pl, rfl, pl, .ref dk, rfl, .inl ⟨_, Sum.inr "kept", .inl pa.a, rfl, rfl⟩, dk, rfl, .inl ⟨kvs, .inl pa.d⟩, .int key, rfl, by show 2 ≤ sizeLine; decide, fun S hS => ⟨by show 3 ≤ sizeLine; decide, fun M hM => ?_⟩⟩
    have s1 : Same H (upd (upd H S (.tup [.int 0, .str ""])) M (.tup [.ref S, .non, .non])) := (same_new hS).trans (same_new hM)
    have hM1 : TpAt (upd (upd H S (.tup [.int 0, .str ""])) M (.tup [.ref S, .non, .non])) M .no := ⟨S, upd_same, same_new hM _ _ upd_same⟩
    generalize upd (upd H S (.tup [.int 0, .str ""])) M (.tup [.ref S, .non, .non]) = H1 at s1 hM1 ⊢
    have pa1 := pa.mono s1
    obtain ⟨m0, hm0, sM, hmT, hmS⟩ : ∃ m0, (valV kvs (Sum.inl key : Key)).getD (.ref M) = .ref m0 ∧ TpAt H1 m0 (f key) := by
      rcases pvs_val pa1.kv key with ⟨m, b, hv, tp⟩ | ⟨m, hv⟩
      · exact ⟨b, by rw [hv]; rfl, tp⟩
      · refine ⟨M, by rw [hv]; rfl, ?_⟩
        have fz : f key = .no := by
          by_cases z : f key = .no
          · exact z
          · exact absurd ((pa.iff key).mpr z) m
        rw [fz]
        exact hM1
    refine ⟨_, .inl ⟨kvs, Sum.inl key, .inl pa1.d, rfl, rfl⟩, ?_⟩
    rw [hm0]
    have hc1 := hc.mono s1
    have sq1 : Sq K H1 td [.ref sT, t.v2, t.v3] := .inr (SqT.of (s1 _ _ ht1))
    have sq2 : Sq K H1 m0 [.ref sM, (f key).v2, (f key).v3] := .inr (SqT.of hmT)
    have sq3 : Sq K H1 sT [.int t.st.1, .str t.st.2] := .inr (SqT.of (s1 _ _ ht2))
    have sq4 : Sq K H1 sM [.int (f key).st.1, .str (f key).st.2] := .inr (SqT.of hmS)
    refine ⟨.ref cr, rfl, cr, _, rfl, hc1, rfl, flat_strs cs, _, rfl, ?_⟩
    refine ife_go (.bl (gtB (!namIn cs) t.st (f key).st)) (fun hn Q' k => ?_) (fun hn Q' k => ?_) ?_
    · have hn : namIn cs = true := hn
      rw [hn] at k
      exact ⟨.ref td, rfl, sq1.ix (at_nat (i := 0) rfl) (sq3.ix (at_nat (i := 0) rfl) ⟨.ref m0, rfl, sq2.ix (at_nat (i := 0) rfl) (sq4.ix (at_nat (i := 0) rfl) ⟨_, _, rfl, rfl, k⟩)⟩)⟩
    · have hn : namIn cs = false := hn
      rw [hn] at k
      exact ⟨.ref td, rfl, sq1.ix (at_nat (i := 0) rfl) ⟨.ref m0, rfl, sq2.ix (at_nat (i := 0) rfl) ⟨sT, sM, _, _, _, _, rfl, rfl, SqT.of (s1 _ _ ht2), SqT.of hmS, k⟩⟩⟩
    refine ⟨.ref pl, rfl, pl, .ref dk, rfl, .inl ⟨_, Sum.inr "kept", .inl pa1.a, rfl, rfl⟩, ?_⟩
    dsimp only [gName]
    refine ifO_go (oldIn cs) (gtB (!namIn cs) t.st (f key).st) (fun Q' k => ⟨.ref cr, rfl, cr, _, rfl, hc1, rfl, flat_strs cs, _, rfl, k⟩) (fun Q' k => ⟨_, rfl, _, rfl, k⟩) (fun hb => ?_) (fun hb => ?_)
    · have kf : keepF f key t cs = putT f key t := by
        unfold keepF takesT
        rw [if_pos hb]
      have few : ks.length ≤ 4 := len_sub ks keyU pa.nd pa.sub
      have lk : kvs.length = ks.length := Paired.length pa.kv
      refine ⟨.ref td, rfl, .ref dk, rfl, .int key, rfl, dk, _, rfl, .inl ⟨kvs, Sum.inl key, pa1.d, rfl, by rw [sizeLine_eq]; omega, rfl⟩, ?_⟩
      obtain ⟨ks', pv, nd', iff'⟩ := pvs_put (H := H1) (t := t) ⟨sT, s1 _ _ ht1, s1 _ _ ht2⟩ pa1.kv pa.nd
      have pv2 := pvs_upd (o := .dK (putK kvs (Sum.inl key) (.ref td))) pa1.d pv
      have bt : ∀ b o, b ≠ dk → H b = some o → upd H1 dk (.dK (putK kvs (Sum.inl key) (.ref td))) b = some o := fun b o hb e => by rw [upd_ne hb]; exact s1 _ _ e
      have d2 : upd H1 dk (.dK (putK kvs (Sum.inl key) (.ref td))) dk = some (.dK (putK kvs (Sum.inl key) (.ref td))) := upd_same
      have ndk : ∀ {b o}, H1 b = some o → (∀ k, o ≠ .dK k) → upd H1 dk (.dK (putK kvs (Sum.inl key) (.ref td))) b = some o := fun e n => by
        rw [upd_ne (fun z => by rw [z, pa1.d] at e; exact n _ (Option.some.inj e).symm)]
        exact e
      have t2 := ndk (s1 _ _ ht1) fun _ z => nomatch z
      have t3 := ndk (s1 _ _ ht2) fun _ z => nomatch z
      have a2 : upd H1 dk (.dK (putK kvs (Sum.inl key) (.ref td))) pl = some (.dK [(Sum.inr "closed", .int c), (Sum.inr "kept", .ref dk)]) := by rw [upd_ne pa.ne]; exact pa1.a
      generalize upd H1 dk (.dK (putK kvs (Sum.inl key) (.ref td))) = H2 at pv2 bt d2 t2 t3 a2 ⊢
      have sub' : ∀ k ∈ ks', k ∈ keyU := fun k m => ((iff' k).mp m).elim (pa.sub k) fun e => by rw [e]; exact hkey
      refine ⟨.ref td, rfl, Sq.ix (.inr (SqT.of t2)) (at_nat (i := 0) rfl) ⟨by show 2 ≤ sizeLine; decide, fun Z hZ => ?_⟩⟩
      have sZ := same_new (o := .tup [.int 0, .str ""]) hZ
      refine ⟨t.d1, T3.no.d1, .tup (SqT.of (sZ _ _ t3)) (.cons (.int _) (.cons (.str _) .nil)), .tup (SqT.of upd_same) (.cons (.int _) (.cons (.str _) .nil)), T3.sh1 tok, T3.sh1 (t := .no) trivial, _, rfl, ?_⟩
      have e0 : PyData.eqv t.d1 T3.no.d1 = decide (t = .no) := by
        have z := eqT_dec tok (t := .no) trivial
        unfold eqT at z
        rw [← z]
        cases t with
        | no => decide
        | so n x p v =>
          have h0 : PyData.eqv (T3.so n x p v).d2 T3.no.d2 = false := rfl
          rw [h0, Bool.false_and, Bool.and_false] at z ⊢
          unfold T3.d1
          rw [eqv_tis, show (((T3.so n x p v).st.1 : Int) == T3.no.st.1) = false from by
            have := tok.1
            show ((n : Int) == (0 : Int)) = false
            simpa using (by omega : ¬ ((n : Int) = (0 : Int))), Bool.false_and]
      rw [e0]
      have putok := putT_ok pa.ok tok (key := key)
      by_cases tn : t = .no
      · rw [decide_eq_true tn]
        have d3 := sZ _ _ d2
        have mk : key ∈ ks' := (iff' key).mpr (.inr rfl)
        obtain ⟨vb, hvb⟩ : ∃ vb, valV (putK kvs (Sum.inl key) (.ref td)) (Sum.inl key) = some vb := by
          rcases pvs_val pv key with ⟨_, b, hv, _⟩ | ⟨n, _⟩
          · exact ⟨_, hv⟩
          · exact absurd mk n
        refine iteT ⟨.ref dk, rfl, dk, rfl, .inl ⟨_, .inl d3⟩, .int key, rfl, _, Sum.inl key, vb, d3, rfl, hvb, ?_⟩
        refine q (dropK (putK kvs (Sum.inl key) (.ref td)) (Sum.inl key)) (offK ks' key) _ (fun b o hb e => by rw [upd_ne hb]; exact sZ _ _ (bt b o hb e)) ⟨by rw [upd_ne pa.ne]; exact sZ _ _ a2, upd_same, ?_, fun k => ?_, nd'.sublist List.filter_sublist, fun k m => sub' k (mem_offK.mp m).1, by rw [kf]; exact putok⟩
        · rw [kf]
          exact pvs_upd d3 (pvs_drop (fun _ _ => rfl) (pv2.mono sZ))
        · rw [kf, mem_offK, iff']
          show _ ↔ (if k = key then t else f k) ≠ .no
          by_cases hk : k = key
          · rw [if_pos hk]
            exact ⟨fun z => absurd hk z.2, fun z => absurd tn z⟩
          · rw [if_neg hk]
            exact ⟨fun z => (pa.iff k).mp (z.1.elim id fun e => absurd e hk), fun z => ⟨.inl ((pa.iff k).mpr z), hk⟩⟩
      · rw [decide_eq_false tn]
        refine iteF (q _ ks' _ (fun b o hb e => sZ _ _ (bt b o hb e)) ⟨sZ _ _ a2, sZ _ _ d2, by rw [kf]; exact pv2.mono sZ, fun k => ?_, nd', sub', by rw [kf]; exact putok⟩)
        rw [kf, iff']
        show _ ↔ (if k = key then t else f k) ≠ .no
        by_cases hk : k = key
        · rw [if_pos hk]
          exact ⟨fun _ => tn, fun _ => .inr hk⟩
        · rw [if_neg hk]
          exact ⟨fun z => (pa.iff k).mp (z.elim id fun e => absurd e hk), fun z => .inl ((pa.iff k).mpr z)⟩
    · have kf : keepF f key t cs = f := by
        unfold keepF takesT
        rw [if_neg (by rw [hb]; exact Bool.false_ne_true)]
      refine q kvs ks H1 (fun b o _ e => s1 _ _ e) ?_
      rw [kf]
      exact pa1
end
end K27
end

section
set_option Elab.async false
set_option linter.all false
set_option maxRecDepth 100000
set_option maxHeartbeats 4000000
/-! what the law's own store answers -/
namespace K27
open PySem PySem.Spec L2 KZ
abbrev sLA : Stmt := top 32
/-- the parts of a letter, as the law draws them -/
def LPartsAt (H : Hp) (r : Addr) : Ltr → Prop
  | .fence e => H r = some (.tup [.int e])
  | .sweep e key t => ∃ b, H r = some (.tup [.int e, .int key, .ref b]) ∧ TpAt H b t
  | .hear a m e key => H r = some (.tup [.int a, .int m, .int e, .int key])
  | .keep a m e key t => ∃ b, H r = some (.tup [.int a, .int m, .int e, .int key, .ref b]) ∧ TpAt H b t
theorem LPartsAt.mono {H H' : Hp} {r : Addr} {l : Ltr} (s : Same H H') (h : LPartsAt H r l) : LPartsAt H' r l := by
  cases l with
  | fence e => exact s _ _ h
  | sweep e key t => exact let ⟨b, h1, h2⟩ := h; ⟨b, s _ _ h1, h2.mono s⟩
  | hear a m e key => exact s _ _ h
  | keep a m e key t => exact let ⟨b, h1, h2⟩ := h; ⟨b, s _ _ h1, h2.mono s⟩
def spLA (K : PySem.W.Frag) (CK : Addr) : Sp := fun vs H Q _ => ∃ pl r cr dk c f kvs ks l cs, vs = [.ref pl, .str l.word, .ref r, .ref cr] ∧ PlainAt H pl dk c f kvs ks ∧ l.Ok ∧ LPartsAt H r l ∧ Sq K H cr (cs.map V.str) ∧
  ∀ w kvs' ks' ks0 H', (∀ b o, b ≠ dk → b ≠ pl → H b = some o → H' b = some o) → PlainAt H' pl dk (stepC c l) (stepF c f cs l) kvs' ks' → ks0.Perm ks → ks0.Pairwise (· ≤ ·) → AnsAt K CK H' w (stepA c f ks0 l) → Q (.ref w) H'
theorem tup2 {H1 : Hp} {q1 w1 : Addr} {X : List V} {wd : Str} (h1 : H1 q1 = none) (h2 : upd H1 q1 (.tup X) w1 = none) :
    ∃ H4, upd (upd H1 q1 (.tup X)) w1 (.tup [.str wd, .ref q1]) = H4 ∧ Same H1 H4 ∧ H4 w1 = some (.tup [.str wd, .ref q1]) ∧ H4 q1 = some (.tup X) :=
  ⟨_, rfl, (same_new h1).trans (same_new h2), upd_same, same_new h2 _ _ upd_same⟩
/-- a sorted list of the keys -/
theorem sorted_of (ks : List Int) : ∃ ks0 : List Int, ks0.Perm ks ∧ ks0.Pairwise (· ≤ ·) := by
  refine ⟨ks.mergeSort (fun a b => decide (a ≤ b)), List.mergeSort_perm _ _, ?_⟩
  have := List.pairwise_mergeSort (le := fun (a b : Int) => decide (a ≤ b)) (fun a b c h1 h2 => by simp at *; omega) (fun a b => by simp; omega) ks
  exact this.imp fun h => by simpa using h
theorem pvs_keys {H : Hp} {f : Int → T3} {kvs : List (Key × V)} {ks : List Int} (h : PvsAt H f kvs ks) : kvs.map (fun p => kV p.1) = ks.map V.int := by
  unfold PvsAt at h
  induction h with
  | nil => rfl
  | cons hh _ ih =>
    rw [List.map_cons, List.map_cons, ih, hh.1]
    rfl
theorem kt_updL {K : PySem.W.Frag} {CK : Addr} {H : Hp} {d a : Addr} {t : T3} {xs : List V} {o : HO} (hd : H d = some (.lst xs)) (h : KtAt K CK H a t) : KtAt K CK (upd H d o) a t := by
  obtain ⟨dx, v, u, x, e, a1, a2, a3⟩ := h
  have ne : ∀ {c : Addr} {o' : HO}, H c = some o' → (∀ k, o' ≠ .lst k) → c ≠ d := fun e n z => by
    rw [z, hd] at e
    exact n _ (Option.some.inj e).symm
  obtain ⟨t1, rfl, k1⟩ := dv_tup2 a1
  refine ⟨dx, _, u, x, by rw [upd_ne (ne e fun _ z => nomatch z)]; exact e, .tup ?_ (.cons (.int _) (.cons (.str _) .nil)), ?_, ?_⟩
  · rcases k1 with (z | ⟨o', z⟩) | z
    · exact .inl (.inl (by rw [upd_ne (ne z fun _ y => nomatch y)]; exact z))
    · exact .inl (.inr ⟨o', by rw [upd_ne (ne z fun _ y => nomatch y)]; exact z⟩)
    · exact .inr z
  · cases t <;> cases a2 <;> first | exact .non | exact .int _
  · cases t <;> cases a3 <;> first | exact .non | exact .int _
theorem pair_updL {K : PySem.W.Frag} {CK : Addr} {H : Hp} {d : Addr} {xs : List V} {o : HO} {v : V} {p : Int × T3} (hd : H d = some (.lst xs)) (h : PairAt K CK H v p) : PairAt K CK (upd H d o) v p := by
  obtain ⟨q, b, e, h1, h2⟩ := h
  refine ⟨q, b, e, ?_, kt_updL hd h2⟩
  rw [upd_ne (fun z => by rw [z, hd] at h1; cases h1)]
  exact h1
section
variable {P : Program} {w : World} {K : PySem.W.Frag} {mg : Str → Option Value} {base : Heap} {CK fM fS : Addr} {dM dS : FuncData}
theorem scLA : FnScope ["plain", "word", "parts", "cares", "told", "key"] ["plain", "word", "parts", "cares"] (defScope sLA) := ⟨rfl, rfl, rfl, by decide +kernel, rfl, by decide +kernel, by decide +kernel⟩
theorem ok_la {f : Addr} {fd : FuncData} (F : Fun K "_law_answer" "_law_answer" sLA f fd) (T : B1 mg) (made : Cal P w K mg base "_law_made" 5 ["told"] (spLM K CK)) (stored : Cal P w K mg base "_law_stored" 1 ["plain", "key", "told", "cares"] (spLS K)) : FnOk P w K mg base CX0 6 f fd ["plain", "word", "parts", "cares"] (spLA K CK) := by
  obtain ⟨fM, dM, gM, GM, kM, bM⟩ := made.ex
  obtain ⟨fS, dS, gS, GS, kS, bS⟩ := stored.ex
  refine F.ok scLA (fun vs H Q E h => ?_) (fun cdv A' outer s H vs Q E hr h => ?_)
  · obtain ⟨pl, r, cr, dk, c, f, kvs, ks, l, cs, rfl, _⟩ := h
    rfl
  · obtain ⟨pl, r, cr, dk, c, f, kvs, ks, l, cs, rfl, pa, lok, pt, hc, q⟩ := h
    have hr5 : Room 5 _ := hr
    have hr1 : Room 1 _ := hr.mono (by decide)
    refine ⟨_, (pss_cons (ps_if (pt_cmpR op_eq (pv 1) pe_str (nomark _))
(pss_cons (ps_dput (hu_of hr) (pv 0) pe_str (pe_callB (call_max2 rfl) (by rfl) T.max (by decide +kernel) (pa_cons (pe_callTy call_int1 (by rfl) T.int (by decide +kernel) (pa_cons (pe_dget (hu_of hr) (pv 0) pe_str (fun _ _ => rfl)) pa_nil)) (pa_cons (pe_callTy call_int1 (by rfl) T.int (by decide +kernel) (pa_cons (pe_ix (ix_seqK K) (pv 2) pe_int (fun _ _ => rfl)) pa_nil)) pa_nil))) rfl)
(pss_cons (ps_set (i := 4) scLA.nd rfl (Or.inl rfl) (pe_callTy call_tuple_of (by rfl) T.tuple (by decide +kernel) (pa_cons (pe_lc (own := [("key", 5)]) (g := gName 5) (tt := tYes) (by rfl) scLA.nd (pi_list (pe_callB cr_sortedI (by rfl) T.sorted (by decide +kernel) (pa_cons (pe_lock (pe_lc (own := [("key", 5)]) (g := gName 5) (tt := tYes) (by rfl) scLA.nd (pi_keys (pe_dget (hu_of hr) (pv 0) pe_str (fun _ _ => rfl))) (blkOk_by (own := [("key", 5)]) (N := ["plain", "word", "parts", "cares", "told", "key"]) (sc := defScope sLA) (by decide +kernel)) (fun _ _ _ _ _ => pg_name (i := 5) scLA.nd rfl (Or.inl rfl)) (fun _ _ _ _ _ => pts_nil) (fun _ _ _ _ _ => pe_callTy call_int1 (by rfl) T.int (by decide +kernel) (pa_cons (pv 5) pa_nil)))) pa_nil))) (blkOk_by (own := [("key", 5)]) (N := ["plain", "word", "parts", "cares", "told", "key"]) (sc := defScope sLA) (by decide +kernel)) (fun _ _ _ _ _ => pg_name (i := 5) scLA.nd rfl (Or.inl rfl)) (fun _ _ _ _ _ => pts_nil) (fun _ _ _ _ _ => pe_tup (pa_cons (pv 5) (pa_cons (pe_call GM hr5 (by rfl) gM kM bM .nil pass0 (pa_cons (pe_dget (hu_of hr) (pe_dget (hu_of hr) (pv 0) pe_str (fun _ _ => rfl)) (pv 5) (fun _ _ => rfl)) pa_nil)) pa_nil)))) pa_nil)))
(pss_one (ps_ret (pe_tup (pa_cons pe_str (pa_cons (pe_tup (pa_cons (pe_ix (ix_seqK K) (pv 2) pe_int (fun _ _ => rfl)) (pa_cons (pv 4) pa_nil))) pa_nil)))))))
pss_nil)
(pss_cons (ps_if (pt_cmpR op_eq (pv 1) pe_str (nomark _))
(pss_cons (ps_expr (pe_call GS hr1 (by rfl) gS kS bS .nil pass0 (pa_cons (pv 0) (pa_cons (pe_ix (ix_seqK K) (pv 2) pe_int (fun _ _ => rfl)) (pa_cons (pe_ix (ix_seqK K) (pv 2) pe_int (fun _ _ => rfl)) (pa_cons (pv 3) pa_nil))))))
(pss_one (ps_ret (pe_tup (pa_cons pe_str (pa_cons (pe_tup (pa_cons (pe_ix (ix_seqK K) (pv 2) pe_int (fun _ _ => rfl)) (pa_cons (pe_ix (ix_seqK K) (pv 2) pe_int (fun _ _ => rfl)) pa_nil))) pa_nil))))))
pss_nil)
(pss_cons (ps_if (pt_cmpR op_ge (pe_dget (hu_of hr) (pv 0) pe_str (fun _ _ => rfl)) (pe_ix (ix_seqK K) (pv 2) pe_int (fun _ _ => rfl)) (nomark _))
(pss_one (ps_ret (pe_tup (pa_cons pe_str (pa_cons (pe_tup (pa_cons (pe_ix (ix_seqK K) (pv 2) pe_int (fun _ _ => rfl)) (pa_cons (pe_ix (ix_seqK K) (pv 2) pe_int (fun _ _ => rfl)) (pa_cons (pe_op op_add (pe_dget (hu_of hr) (pv 0) pe_str (fun _ _ => rfl)) pe_int) pa_nil)))) pa_nil)))))
pss_nil)
(pss_cons (ps_if (pt_cmpR op_eq (pv 1) pe_str (nomark _))
(pss_one (ps_ret (pe_tup (pa_cons pe_str (pa_cons (pe_tup (pa_cons (pe_ix (ix_seqK K) (pv 2) pe_int (fun _ _ => rfl)) (pa_cons (pe_ix (ix_seqK K) (pv 2) pe_int (fun _ _ => rfl)) (pa_cons (pe_call GM hr5 (by rfl) gM kM bM .nil pass0 (pa_cons (pe_dget2 (hu_of hr) (pe_dget (hu_of hr) (pv 0) pe_str (fun _ _ => rfl)) (pe_ix (ix_seqK K) (pv 2) pe_int (fun _ _ => rfl)) (pe_tup (pa_cons (pe_tup (pa_cons pe_int (pa_cons pe_str pa_nil))) (pa_cons pe_non (pa_cons pe_non pa_nil)))) ⟨rfl, rfl, rfl, rfl⟩) pa_nil)) pa_nil)))) pa_nil)))))
pss_nil)
(pss_cons (ps_expr (pe_call GS hr1 (by rfl) gS kS bS .nil pass0 (pa_cons (pv 0) (pa_cons (pe_ix (ix_seqK K) (pv 2) pe_int (fun _ _ => rfl)) (pa_cons (pe_ix (ix_seqK K) (pv 2) pe_int (fun _ _ => rfl)) (pa_cons (pv 3) pa_nil))))))
(pss_one (ps_ret (pe_tup (pa_cons pe_str (pa_cons (pe_tup (pa_cons (pe_ix (ix_seqK K) (pv 2) pe_int (fun _ _ => rfl)) (pa_cons (pe_ix (ix_seqK K) (pv 2) pe_int (fun _ _ => rfl)) pa_nil))) pa_nil)))))))))), ?_⟩
    refine ⟨_, rfl, rfl, _, rfl, ?_⟩
    obtain ⟨ks0, pm0, pw0⟩ := sorted_of ks
    cases l with
    | sweep e key t =>
      rw [show decide (V.str (Ltr.sweep e key t).word = V.str "fence") = false from w_ne "sweep" (by decide)]
      refine iteF ⟨_, rfl, rfl, _, rfl, ?_⟩
      rw [show decide (V.str (Ltr.sweep e key t).word = V.str "sweep") = true from decide_eq_true rfl]
      obtain ⟨b, hp, kt⟩ := pt
      have sq : ∀ {H' : Hp}, H' r = some (.tup [.int e, .int key, .ref b]) → Sq K H' r [.int e, .int key, .ref b] := fun h => .inr (SqT.of h)
      refine iteT ⟨.ref pl, rfl, .ref r, rfl, (sq hp).ix (at_nat (i := 1) rfl) ⟨.ref r, rfl, (sq hp).ix (at_nat (i := 2) rfl) ⟨.ref cr, rfl, ?_⟩⟩⟩
      refine ⟨pl, key, b, cr, dk, c, f, kvs, ks, t, cs, rfl, pa, lok.1, kt, lok.2, hc, fun kvs' ks' H1 bt pa1 => ?_⟩
      have hp1 : H1 r = some (.tup [.int e, .int key, .ref b]) := bt _ _ (fun z => by rw [z, pa.d] at hp; cases hp) hp
      refine ⟨.ref r, rfl, (sq hp1).ix (at_nat (i := 0) rfl) ⟨.ref r, rfl, (sq hp1).ix (at_nat (i := 1) rfl) ⟨by show 2 ≤ sizeLine; decide, fun q1 hq1 => ⟨by show 2 ≤ sizeLine; decide, fun w1 hw1 => ?_⟩⟩⟩⟩
      obtain ⟨H4, e4, s4, w4, q4⟩ := tup2 hq1 hw1
      rw [e4]
      exact q w1 kvs' ks' ks0 H4 (fun b' o h1 _ z => s4 _ _ (bt b' o h1 z)) (pa1.mono s4) pm0 pw0 ⟨q1, w4, q4⟩
    | hear a m e key =>
      rw [show decide (V.str (Ltr.hear a m e key).word = V.str "fence") = false from w_ne "hear" (by decide)]
      refine iteF ⟨_, rfl, rfl, _, rfl, ?_⟩
      rw [show decide (V.str (Ltr.hear a m e key).word = V.str "sweep") = false from w_ne2 "hear" (by decide)]
      refine iteF ?_
      have sq : ∀ {H' : Hp}, H' r = some (.tup [.int a, .int m, .int e, .int key]) → Sq K H' r [.int a, .int m, .int e, .int key] := fun h => .inr (SqT.of h)
      refine ⟨.ref pl, rfl, pl, .int c, rfl, .inl ⟨_, Sum.inr "closed", .inl pa.a, rfl, rfl⟩, .ref r, rfl, (sq pt).ix (at_nat (i := 2) rfl) ⟨c, e, rfl, rfl, _, rfl, ?_⟩⟩
      cases ec : decide (e ≤ c) with
      | true =>
        have eA : stepA c f ks0 (.hear a m e key) = .refused a m (c + 1) := by
          show (if decide (e ≤ c) = true then _ else _) = _
          rw [if_pos ec]
        refine iteT ⟨.ref r, rfl, (sq pt).ix (at_nat (i := 0) rfl) ⟨.ref r, rfl, (sq pt).ix (at_nat (i := 1) rfl) ?_⟩⟩
        refine ⟨.ref pl, rfl, pl, .int c, rfl, .inl ⟨_, Sum.inr "closed", .inl pa.a, rfl, rfl⟩, c, 1, rfl, rfl, by show 3 ≤ sizeLine; decide, fun q1 hq1 => ⟨by show 2 ≤ sizeLine; decide, fun w1 hw1 => ?_⟩⟩
        obtain ⟨H4, e4, s4, w4, q4⟩ := tup2 hq1 hw1
        rw [e4]
        exact q w1 kvs ks ks0 H4 (fun b' o _ _ z => s4 _ _ z) (pa.mono s4) pm0 pw0 (by rw [eA]; exact ⟨q1, w4, q4⟩)
      | false =>
        have eA : stepA c f ks0 (.hear a m e key) = .heard a m (f key) := by
          show (if decide (e ≤ c) = true then _ else _) = _
          rw [if_neg (by rw [ec]; exact Bool.false_ne_true)]
        refine iteF ⟨_, rfl, rfl, _, rfl, ?_⟩
        rw [show decide (V.str (Ltr.hear a m e key).word = V.str "hear") = true from decide_eq_true rfl]
        refine iteT ⟨.ref r, rfl, (sq pt).ix (at_nat (i := 0) rfl) ⟨.ref r, rfl, (sq pt).ix (at_nat (i := 1) rfl) ⟨.ref pl, rfl, pl, .ref dk, rfl, .inl ⟨_, Sum.inr "kept", .inl pa.a, rfl, rfl⟩, dk, rfl, .inl ⟨kvs, .inl pa.d⟩, .ref r, rfl, (sq pt).ix (at_nat (i := 3) rfl) ⟨by show 2 ≤ sizeLine; decide, fun S hS => ⟨by show 3 ≤ sizeLine; decide, fun M hM => ?_⟩⟩⟩⟩⟩
        have s1 : Same H (upd (upd H S (.tup [.int 0, .str ""])) M (.tup [.ref S, .non, .non])) := (same_new hS).trans (same_new hM)
        have hM1 : TpAt (upd (upd H S (.tup [.int 0, .str ""])) M (.tup [.ref S, .non, .non])) M .no := ⟨S, upd_same, same_new hM _ _ upd_same⟩
        generalize upd (upd H S (.tup [.int 0, .str ""])) M (.tup [.ref S, .non, .non]) = H1 at s1 hM1 ⊢
        have pa1 := pa.mono s1
        obtain ⟨m0, hm0, hmT⟩ : ∃ m0, (valV kvs (Sum.inl key : Key)).getD (.ref M) = .ref m0 ∧ TpAt H1 m0 (f key) := by
          rcases pvs_val pa1.kv key with ⟨m, b, hv, tp⟩ | ⟨m, hv⟩
          · exact ⟨b, by rw [hv]; rfl, tp⟩
          · refine ⟨M, by rw [hv]; rfl, ?_⟩
            have fz : f key = .no := by
              by_cases z : f key = .no
              · exact z
              · exact absurd ((pa.iff key).mpr z) m
            rw [fz]
            exact hM1
        refine ⟨_, .inl ⟨kvs, Sum.inl key, .inl pa1.d, rfl, rfl⟩, ?_⟩
        rw [hm0]
        refine ⟨m0, f key, rfl, hmT, fun b H2 s2 kt => ?_⟩
        refine ⟨by show 3 ≤ sizeLine; decide, fun q1 hq1 => ⟨by show 2 ≤ sizeLine; decide, fun w1 hw1 => ?_⟩⟩
        obtain ⟨H4, e4, s4, w4, q4⟩ := tup2 hq1 hw1
        rw [e4]
        have sA := s1.trans (s2.trans s4)
        exact q w1 kvs ks ks0 H4 (fun b' o _ _ z => sA _ _ z) (pa.mono sA) pm0 pw0 (by rw [eA]; exact ⟨q1, b, w4, q4, kt.mono s4⟩)
    | keep a m e key t =>
      rw [show decide (V.str (Ltr.keep a m e key t).word = V.str "fence") = false from w_ne "keep" (by decide)]
      refine iteF ⟨_, rfl, rfl, _, rfl, ?_⟩
      rw [show decide (V.str (Ltr.keep a m e key t).word = V.str "sweep") = false from w_ne2 "keep" (by decide)]
      refine iteF ?_
      obtain ⟨b, pt, kt⟩ := pt
      have sq : ∀ {H' : Hp}, H' r = some (.tup [.int a, .int m, .int e, .int key, .ref b]) → Sq K H' r [.int a, .int m, .int e, .int key, .ref b] := fun h => .inr (SqT.of h)
      refine ⟨.ref pl, rfl, pl, .int c, rfl, .inl ⟨_, Sum.inr "closed", .inl pa.a, rfl, rfl⟩, .ref r, rfl, (sq pt).ix (at_nat (i := 2) rfl) ⟨c, e, rfl, rfl, _, rfl, ?_⟩⟩
      cases ec : decide (e ≤ c) with
      | true =>
        have eA : stepA c f ks0 (.keep a m e key t) = .refused a m (c + 1) := by
          show (if decide (e ≤ c) = true then _ else _) = _
          rw [if_pos ec]
        have eF : stepF c f cs (.keep a m e key t) = f := by
          show (if decide (e ≤ c) = true then f else _) = _
          rw [if_pos ec]
        refine iteT ⟨.ref r, rfl, (sq pt).ix (at_nat (i := 0) rfl) ⟨.ref r, rfl, (sq pt).ix (at_nat (i := 1) rfl) ?_⟩⟩
        refine ⟨.ref pl, rfl, pl, .int c, rfl, .inl ⟨_, Sum.inr "closed", .inl pa.a, rfl, rfl⟩, c, 1, rfl, rfl, by show 3 ≤ sizeLine; decide, fun q1 hq1 => ⟨by show 2 ≤ sizeLine; decide, fun w1 hw1 => ?_⟩⟩
        obtain ⟨H4, e4, s4, w4, q4⟩ := tup2 hq1 hw1
        rw [e4]
        exact q w1 kvs ks ks0 H4 (fun b' o _ _ z => s4 _ _ z) (by rw [eF]; exact pa.mono s4) pm0 pw0 (by rw [eA]; exact ⟨q1, w4, q4⟩)
      | false =>
        have eA : stepA c f ks0 (.keep a m e key t) = .kept a m := by
          show (if decide (e ≤ c) = true then _ else _) = _
          rw [if_neg (by rw [ec]; exact Bool.false_ne_true)]
        have eF : stepF c f cs (.keep a m e key t) = keepF f key t cs := by
          show (if decide (e ≤ c) = true then f else _) = _
          rw [if_neg (by rw [ec]; exact Bool.false_ne_true)]
        refine iteF ⟨_, rfl, rfl, _, rfl, ?_⟩
        rw [show decide (V.str (Ltr.keep a m e key t).word = V.str "hear") = false from w_ne3]
        refine iteF ⟨.ref pl, rfl, .ref r, rfl, (sq pt).ix (at_nat (i := 3) rfl) ⟨.ref r, rfl, (sq pt).ix (at_nat (i := 4) rfl) ⟨.ref cr, rfl, ?_⟩⟩⟩
        refine ⟨pl, key, b, cr, dk, c, f, kvs, ks, t, cs, rfl, pa, lok.1, kt, lok.2, hc, fun kvs' ks' H1 bt pa1 => ?_⟩
        have hp1 : H1 r = some (.tup [.int a, .int m, .int e, .int key, .ref b]) := bt _ _ (fun z => by rw [z, pa.d] at pt; cases pt) pt
        refine ⟨.ref r, rfl, (sq hp1).ix (at_nat (i := 0) rfl) ⟨.ref r, rfl, (sq hp1).ix (at_nat (i := 1) rfl) ⟨by show 2 ≤ sizeLine; decide, fun q1 hq1 => ⟨by show 2 ≤ sizeLine; decide, fun w1 hw1 => ?_⟩⟩⟩⟩
        obtain ⟨H4, e4, s4, w4, q4⟩ := tup2 hq1 hw1
        rw [e4]
        exact q w1 kvs' ks' ks0 H4 (fun b' o h1 _ z => s4 _ _ (bt b' o h1 z)) (by rw [eF]; exact pa1.mono s4) pm0 pw0 (by rw [eA]; exact ⟨q1, w4, q4⟩)
    | fence e =>
      rw [show decide (V.str (Ltr.fence e).word = V.str "fence") = true from decide_eq_true rfl]
      refine iteT ?_
      have sq : ∀ {H' : Hp}, H' r = some (.tup [.int e]) → Sq K H' r [.int e] := fun h => .inr (SqT.of h)
      have few : ks.length ≤ 4 := len_sub ks keyU pa.nd pa.sub
      have pt : H r = some (.tup [.int e]) := pt
      refine ⟨.ref pl, rfl, pl, .int c, rfl, .inl ⟨_, Sum.inr "closed", .inl pa.a, rfl, rfl⟩, .inl ⟨c, rfl, .ref r, rfl, (sq pt).ix (at_nat (i := 0) rfl) (.inl ⟨e, rfl, c, e, rfl, .ref pl, rfl, pl, _, rfl, .inl ⟨_, Sum.inr "closed", pa.a, rfl, by rw [sizeLine_eq]; show 2 < 16777216; decide, rfl⟩, ?_⟩)⟩⟩
      generalize eH1 : upd H pl _ = H1
      have bt1 : ∀ b o, b ≠ pl → H b = some o → H1 b = some o := fun b o hb z => by rw [← eH1, upd_ne hb]; exact z
      have pa1 : PlainAt H1 pl dk (maxI c e) f kvs ks := ⟨by rw [← eH1, upd_same]; rfl, bt1 _ _ (fun z => pa.ne z.symm) pa.d, by rw [← eH1]; exact pvs_upd pa.a pa.kv, pa.iff, pa.nd, pa.sub, pa.ok⟩
      have pt1 : H1 r = some (.tup [.int e]) := bt1 _ _ (fun z => by rw [z, pa.a] at pt; cases pt) pt
      clear eH1
      refine ⟨dk, .dK kvs, pa1.d, trivial, fun od => ?_⟩
      have ek : kvs.map (fun p => kV p.1) = ks.map V.int := pvs_keys pa1.kv
      have lk : kvs.length = ks.length := Paired.length pa1.kv
      generalize eHf : upd H1 dk (.frz od (.dK kvs)) = Hf
      have fdk : Hf dk = some (.frz od (.dK kvs)) := by rw [← eHf, upd_same]
      have btf : ∀ b o, b ≠ dk → H1 b = some o → Hf b = some o := fun b o hb z => by rw [← eHf, upd_ne hb]; exact z
      refine ⟨.ref pl, rfl, pl, .ref dk, rfl, .inl ⟨_, Sum.inr "kept", .inl (btf _ _ pa.ne pa1.a), rfl, rfl⟩, dk, od, rfl, .inl ⟨kvs, fdk, fun D hD => ?_⟩⟩
      have nD : dk ≠ D := fun z => by rw [z, hD] at fdk; cases fdk
      refine lc_it walk_keys (fun i H' => H' = upd Hf D (.lst ((ks.take i).map V.int))) (by simp) (fun i H' _ z => by rw [z, upd_ne nD]; exact fdk) ?_ ?_
      · rintro i x _ H' hi rfl ⟨rfl, k0, v0, hk0, rfl⟩
        rw [lk] at hi
        have e1 : kV k0 = V.int ks[i] := by
          have z := congrArg (fun l => l[i]?) ek
          simp only [List.getElem?_map, hk0, List.getElem?_eq_getElem hi] at z
          exact Option.some.inj z
        rw [e1]
        refine ⟨rfl, yes_go ?_⟩
        refine ⟨_, rfl, .inl ⟨ks[i], rfl, (ks.take i).map V.int, upd_same, ?_, ?_⟩⟩
        · rw [List.length_map, List.length_take, sizeLine_eq]
          omega
        · rw [List.take_add_one, List.getElem?_eq_getElem hi, List.map_append, upd_upd]
          rfl
      rintro H' rfl
      rw [lk, List.take_length]
      refine ⟨by rw [upd_ne nD]; exact fdk, ?_⟩
      generalize eH3 : upd (upd Hf D (.lst (ks.map V.int))) dk (.dK kvs) = H3
      have s3 : Same H1 H3 := fun b o z => by
        rw [← eH3]
        by_cases hb : b = dk
        · rw [hb, upd_same]
          rw [hb, pa1.d] at z
          exact z
        · rw [upd_ne hb, upd_ne (fun z2 => by
            have z3 := btf b o hb z
            rw [z2, hD] at z3
            cases z3)]
          exact btf b o hb z
      have d3 : H3 D = some (.lst (ks.map V.int)) := by rw [← eH3, upd_ne nD.symm, upd_same]
      clear eH3
      refine ⟨D, ks, rfl, SqL.of d3, fun ks' l2 pm pw hl2 => ?_⟩
      refine ⟨l2, rfl, ⟨_, SqL.of upd_same⟩, fun G hG => ?_⟩
      have s4 : Same H1 (upd H3 l2 (.lst (ks'.map V.int))) := s3.trans (same_new hl2)
      have d4 : (upd H3 l2 (.lst (ks'.map V.int))) l2 = some (.lst (ks'.map V.int)) := upd_same
      generalize upd H3 l2 (.lst (ks'.map V.int)) = H4 at s4 d4 hG ⊢
      have pa4 := pa1.mono s4
      have pt4 := s4 _ _ pt1
      have lz : ks'.length ≤ 4 := by rw [pm.length_eq]; exact few
      refine lc_it (walk_list (K := K) (a := l2) (xs := ks'.map V.int)) (fun i H' => Same H4 H' ∧ ∃ vs, H' G = some (.lst vs) ∧ Paired (PairAt K CK H') vs ((ks'.take i).map fun k => (k, f k))) ⟨same_new hG, [], upd_same, .nil⟩ (fun i H' _ z => SqL.of (z.1 _ _ d4)) ?_ ?_
      · rintro i y H5 H6 hi ⟨c1, vs, c2, c3⟩ ⟨rfl, hy⟩
        have il : i < ks'.length := by rwa [List.length_map] at hi
        have ey : y = .int ks'[i] := by
          rw [List.getElem?_map, List.getElem?_eq_getElem il] at hy
          exact (Option.some.inj hy).symm
        subst ey
        have m1 : ks'[i] ∈ ks := pm.mem_iff.mp (List.getElem_mem il)
        have pa5 := pa4.mono c1
        rcases pvs_val pa5.kv ks'[i] with ⟨_, b, hv, tp⟩ | ⟨m, _⟩
        · refine ⟨rfl, yes_go ?_⟩
          refine ⟨_, rfl, .ref pl, rfl, pl, .ref dk, rfl, .inl ⟨_, Sum.inr "kept", .inl pa5.a, rfl, rfl⟩, _, rfl, dk, .ref b, rfl, .inl ⟨kvs, Sum.inl ks'[i], .inl pa5.d, rfl, hv.symm⟩, b, f ks'[i], rfl, tp, fun b2 H7 s7 kt => ⟨by show 2 ≤ sizeLine; decide, fun q1 hq1 => ?_⟩⟩
          have s8 : Same H6 (upd H7 q1 (.tup [.int ks'[i], .ref b2])) := s7.trans (same_new hq1)
          refine ⟨vs, s8 _ _ c2, ?_, ?_, vs ++ [.ref q1], upd_same, ?_⟩
          · rw [Paired.length c3, List.length_map, List.length_take, sizeLine_eq]
            omega
          · exact fun b' o z => by
              rw [upd_ne (fun z2 => by rw [z2, hG] at z; cases z)]
              exact s8 _ _ (c1 _ _ z)
          · have rg : Rd (upd H7 q1 (.tup [.int ks'[i], .ref b2])) G (.lst vs) := .inl (s8 _ _ c2)
            rw [List.take_add_one, List.getElem?_eq_getElem il, List.map_append]
            exact Paired.mapP (Paired.snoc (Paired.mapP c3 fun _ _ z => z.mono s8) ⟨q1, b2, rfl, upd_same, kt.mono (same_new hq1)⟩) fun _ _ z => pair_updL (s8 _ _ c2) z
        · exact absurd m1 m
      rintro H5 ⟨c1, vs, c2, c3⟩
      rw [List.length_map, List.take_length] at c3
      have pt5 := c1 _ _ pt4
      refine ⟨G, vs, rfl, .inl ⟨SqL.of c2, fun tt htt => ?_⟩⟩
      have s6 := same_new (o := .tup vs) htt
      have t6 : (upd H5 tt (.tup vs)) tt = some (.tup vs) := upd_same
      generalize upd H5 tt (.tup vs) = H6 at s6 t6 ⊢
      refine ⟨.ref r, rfl, (sq (s6 _ _ pt5)).ix (at_nat (i := 0) rfl) ⟨.ref tt, rfl, by show 2 ≤ sizeLine; decide, fun q1 hq1 => ⟨by show 2 ≤ sizeLine; decide, fun w1 hw1 => ?_⟩⟩⟩
      obtain ⟨H7, e7, s7, w7, q7⟩ := tup2 hq1 hw1
      rw [e7]
      have sA := s4.trans (c1.trans (s6.trans s7))
      exact q w1 kvs ks ks' H7 (fun b' o _ h2 z => sA _ _ (bt1 b' o h2 z)) (pa1.mono sA) pm pw ⟨q1, tt, vs, w7, q7, s7 _ _ t6, Paired.mapP c3 fun _ _ z => z.mono (s6.trans s7)⟩
end
end K27
end

section
set_option Elab.async false
set_option linter.all false
set_option maxRecDepth 100000
set_option maxHeartbeats 4000000
/-! a letter that the law draws -/
namespace K27
open PySem PySem.Spec L2 KZ
abbrev sLT : Stmt := top 33
def spLT : Sp := fun vs H Q _ => ∃ (p c kl : Addr) (cells : List Int) (n : Nat), vs = [.ref p, .ref kl] ∧ PenAt H p c cells n ∧ n ≤ 8000 ∧ H kl = some (.lst (keyU.map V.int)) ∧ kl ≠ p ∧
  ∀ (l : Ltr) a r H', l.Ok → PenAt H' p c cells (n + 12) → Kept p H H' → H' a = some (.tup [.str l.word, .ref r]) → LPartsAt H' r l → Q (.ref a) H'
def wordL : List Str := ["hear", "keep", "keep", "fence", "sweep", "keep", "hear"]
section
variable {P : Program} {w : World} {K : PySem.W.Frag} {mg : Str → Option Value} {base : Heap} {fD fO fK : Addr} {dD dO dK_ : FuncData}
theorem scLT : FnScope ["well", "keys", "word", "key", "epoch"] ["well", "keys"] (defScope sLT) := ⟨rfl, rfl, rfl, by decide +kernel, rfl, by decide +kernel, by decide +kernel⟩
theorem ok_lt {f : Addr} {fd : FuncData} (F : Fun K "_law_letter" "_law_letter" sLT f fd) (draw : Cal P w K mg base "_law_draw" 1 ["well", "many"] spDraw) (one : Cal P w K mg base "_law_one" 2 ["well", "some"] spOne) (kept : Cal P w K mg base "_law_kept" 3 ["well"] spLK) : FnOk P w K mg base CX0 4 f fd ["well", "keys"] spLT := by
  obtain ⟨fD, dD, gD, GD, kD, bD⟩ := draw.ex
  obtain ⟨fO, dO, gO, GO, kO, bO⟩ := one.ex
  obtain ⟨fK, dK_, gK, GK, kK, bK⟩ := kept.ex
  refine F.ok scLT (fun vs H Q E h => ?_) (fun cdv A' outer s H vs Q E hr h => ?_)
  · obtain ⟨p, c, kl, cells, n, rfl, _⟩ := h
    rfl
  · obtain ⟨p, c, kl, cells, n, rfl, pen, hn, hkl, nkl, q⟩ := h
    have hr3 : Room 3 _ := hr
    have hr2 : Room 2 _ := hr.mono (by decide)
    have hr1 : Room 1 _ := hr.mono (by decide)
    refine ⟨_, (pss_cons (ps_set (i := 2) scLT.nd rfl (Or.inl rfl) (pe_call GO hr2 (by rfl) gO kO bO .nil pass0 (pa_cons (pv 0) (pa_cons (pe_lst (pa_cons pe_str (pa_cons pe_str (pa_cons pe_str (pa_cons pe_str (pa_cons pe_str (pa_cons pe_str (pa_cons pe_str pa_nil)))))))) pa_nil))))
(pss_cons (ps_par (i := 3) (j := 4) (by rfl) scLT.nd rfl rfl (by decide) rfl rfl (pa_cons (pe_call GO hr2 (by rfl) gO kO bO .nil pass0 (pa_cons (pv 0) (pa_cons (pv 1) pa_nil))) (pa_cons (pe_call GD hr1 (by rfl) gD kD bD .nil pass0 (pa_cons (pv 0) (pa_cons pe_int pa_nil))) pa_nil)) (by rfl))
(pss_cons (ps_if (pt_cmpR op_eq (pv 2) pe_str (nomark _))
(pss_one (ps_ret (pe_tup (pa_cons (pv 2) (pa_cons (pe_tup (pa_cons (pe_call GD hr1 (by rfl) gD kD bD .nil pass0 (pa_cons (pv 0) (pa_cons pe_int pa_nil))) pa_nil)) pa_nil)))))
pss_nil)
(pss_cons (ps_if (pt_cmpR op_eq (pv 2) pe_str (nomark _))
(pss_one (ps_ret (pe_tup (pa_cons (pv 2) (pa_cons (pe_tup (pa_cons (pv 4) (pa_cons (pv 3) (pa_cons (pe_call GK hr3 (by rfl) gK kK bK .nil pass0 (pa_cons (pv 0) pa_nil)) pa_nil)))) pa_nil)))))
pss_nil)
(pss_cons (ps_if (pt_cmpR op_eq (pv 2) pe_str (nomark _))
(pss_one (ps_ret (pe_tup (pa_cons (pv 2) (pa_cons (pe_tup (pa_cons (pe_call GD hr1 (by rfl) gD kD bD .nil pass0 (pa_cons (pv 0) (pa_cons pe_int pa_nil))) (pa_cons (pe_call GD hr1 (by rfl) gD kD bD .nil pass0 (pa_cons (pv 0) (pa_cons pe_int pa_nil))) (pa_cons (pv 4) (pa_cons (pv 3) pa_nil))))) pa_nil)))))
pss_nil)
(pss_one (ps_ret (pe_tup (pa_cons (pv 2) (pa_cons (pe_tup (pa_cons (pe_call GD hr1 (by rfl) gD kD bD .nil pass0 (pa_cons (pv 0) (pa_cons pe_int pa_nil))) (pa_cons (pe_call GD hr1 (by rfl) gD kD bD .nil pass0 (pa_cons (pv 0) (pa_cons pe_int pa_nil))) (pa_cons (pv 4) (pa_cons (pv 3) (pa_cons (pe_call GK hr3 (by rfl) gK kK bK .nil pass0 (pa_cons (pv 0) pa_nil)) pa_nil)))))) pa_nil)))))))))), ?_⟩
    refine ⟨.ref p, rfl, by show 7 ≤ sizeLine; decide, fun L hL => ?_⟩
    have sL := same_new (o := .lst (wordL.map V.str)) hL
    have nL := pen.nn hL
    refine ⟨p, c, L, cells, n, _, rfl, pen.mono sL (Nat.le_refl _), by omega, upd_same, nL.1, by decide, by decide, fun i x H2 hx pen2 kp2 => ?_⟩
    obtain ⟨x', rfl, hm⟩ : ∃ x', x = .str x' ∧ x' ∈ wordL := by
      have hx : (wordL.map V.str)[i]? = some x := hx
      rw [List.getElem?_map] at hx
      cases e : wordL[i]? with
      | none => rw [e] at hx; cases hx
      | some y => rw [e] at hx; exact ⟨y, (Option.some.inj hx).symm, List.mem_of_getElem? e⟩
    have kp2 := (Kept.of sL).trans kp2
    refine ⟨.ref p, rfl, .ref kl, rfl, p, c, kl, cells, _, _, rfl, pen2, by omega, kp2 _ _ nkl hkl, nkl, by decide, by decide, fun j k0 H3 hk pen3 kp3 => ?_⟩
    obtain ⟨key, rfl, mk⟩ : ∃ key, k0 = .int key ∧ key ∈ keyU := by
      rw [List.getElem?_map] at hk
      cases e : keyU[j]? with
      | none => rw [e] at hk; cases hk
      | some y => rw [e] at hk; exact ⟨y, (Option.some.inj hk).symm, List.mem_of_getElem? e⟩
    have kp3 := kp2.trans kp3
    refine ⟨.ref p, rfl, p, c, cells, _, 4, rfl, pen3, by omega, by decide, by decide, fun e0 H4 e1 e2 pen4 kp4 => ?_⟩
    have kp4 := kp3.trans kp4
    dsimp only [gName]
    refine ⟨_, _, rfl, ?_⟩
    have hw : x' = "fence" ∨ x' = "sweep" ∨ x' = "hear" ∨ x' = "keep" := by
      simp only [wordL, List.mem_cons, List.not_mem_nil, or_false] at hm
      rcases hm with h|h|h|h|h|h|h <;> first | exact .inl h | exact .inr (.inl h) | exact .inr (.inr (.inl h)) | exact .inr (.inr (.inr h))
    refine ⟨_, rfl, rfl, _, rfl, ?_⟩
    rcases hw with rfl | rfl | rfl | rfl
    · rw [show decide (V.str ("fence" : Str) = V.str "fence") = true from decide_eq_true rfl]
      refine iteT ⟨_, rfl, .ref p, rfl, p, c, cells, _, 3, rfl, pen4, by omega, by decide, by decide, fun e5 H5 a0 a1 pen5 kp5 => ⟨by show 1 ≤ sizeLine; decide, fun r0 hr0 => ⟨by show 2 ≤ sizeLine; decide, fun a ha => ?_⟩⟩⟩
      obtain ⟨H6, e6, s6, w6, q6⟩ := tup2 hr0 ha
      rw [e6]
      exact q (.fence e5) a r0 _ trivial (pen5.mono s6 (by omega)) ((kp4.trans kp5).trans (Kept.of s6)) w6 q6
    · rw [show decide (V.str ("sweep" : Str) = V.str "fence") = false from w_ne "sweep" (by decide)]
      refine iteF ⟨_, rfl, rfl, _, rfl, ?_⟩
      rw [show decide (V.str ("sweep" : Str) = V.str "sweep") = true from decide_eq_true rfl]
      refine iteT ⟨_, rfl, _, rfl, _, rfl, .ref p, rfl, p, c, cells, _, rfl, pen4, by omega, fun t b H5 tok pen5 kp5 tp => ⟨by show 3 ≤ sizeLine; decide, fun r0 hr0 => ⟨by show 2 ≤ sizeLine; decide, fun a ha => ?_⟩⟩⟩
      obtain ⟨H6, e6, s6, w6, q6⟩ := tup2 hr0 ha
      rw [e6]
      exact q (.sweep e0 key t) a r0 _ ⟨mk, tok⟩ (pen5.mono s6 (by omega)) ((kp4.trans kp5).trans (Kept.of s6)) w6 ⟨b, q6, tp.mono s6⟩
    · rw [show decide (V.str ("hear" : Str) = V.str "fence") = false from w_ne "hear" (by decide)]
      refine iteF ⟨_, rfl, rfl, _, rfl, ?_⟩
      rw [show decide (V.str ("hear" : Str) = V.str "sweep") = false from w_ne2 "hear" (by decide)]
      refine iteF ⟨_, rfl, rfl, _, rfl, ?_⟩
      rw [show decide (V.str ("hear" : Str) = V.str "hear") = true from decide_eq_true rfl]
      refine iteT ⟨_, rfl, .ref p, rfl, p, c, cells, _, 4, rfl, pen4, by omega, by decide, by decide, fun e5 H5 _ _ pen5 kp5 => ?_⟩
      refine ⟨.ref p, rfl, p, c, cells, _, 3, rfl, pen5, by omega, by decide, by decide, fun e6 H6 _ _ pen6 kp6 => ?_⟩
      refine ⟨_, rfl, _, rfl, by show 4 ≤ sizeLine; decide, fun r0 hr0 => ⟨by show 2 ≤ sizeLine; decide, fun a ha => ?_⟩⟩
      obtain ⟨H7, e7, s7, w7, q7⟩ := tup2 hr0 ha
      rw [e7]
      exact q (.hear e5 e6 e0 key) a r0 _ mk (pen6.mono s7 (by omega)) ((kp4.trans (kp5.trans kp6)).trans (Kept.of s7)) w7 q7
    · rw [show decide (V.str ("keep" : Str) = V.str "fence") = false from w_ne "keep" (by decide)]
      refine iteF ⟨_, rfl, rfl, _, rfl, ?_⟩
      rw [show decide (V.str ("keep" : Str) = V.str "sweep") = false from w_ne2 "keep" (by decide)]
      refine iteF ⟨_, rfl, rfl, _, rfl, ?_⟩
      rw [show decide (V.str ("keep" : Str) = V.str "hear") = false from w_ne3]
      refine iteF ⟨_, rfl, .ref p, rfl, p, c, cells, _, 4, rfl, pen4, by omega, by decide, by decide, fun e5 H5 _ _ pen5 kp5 => ?_⟩
      refine ⟨.ref p, rfl, p, c, cells, _, 3, rfl, pen5, by omega, by decide, by decide, fun e6 H6 _ _ pen6 kp6 => ?_⟩
      refine ⟨_, rfl, _, rfl, .ref p, rfl, p, c, cells, _, rfl, pen6, by omega, fun t b H7 tok pen7 kp7 tp => ⟨by show 5 ≤ sizeLine; decide, fun r0 hr0 => ⟨by show 2 ≤ sizeLine; decide, fun a ha => ?_⟩⟩⟩
      obtain ⟨H8, e8, s8, w8, q8⟩ := tup2 hr0 ha
      rw [e8]
      exact q (.keep e5 e6 e0 key t) a r0 _ ⟨mk, tok⟩ (pen7.mono s8 (by omega)) ((kp4.trans (kp5.trans (kp6.trans kp7))).trans (Kept.of s8)) w8 ⟨b, q8, tp.mono s8⟩
end
end K27
end

section
set_option Elab.async false
set_option linter.all false
set_option maxRecDepth 100000
set_option maxHeartbeats 4000000
/-! a host stands as the law's own store -/
namespace K27
open PySem PySem.Spec L2 KZ
abbrev sST : Stmt := top 34
/-- the host's own len and contains -/
structure HoM (P : Program) (w : World) (K : PySem.W.Frag) (mg : Str → Option Value) (base : Heap) (CK CH : Addr) : Prop where
  len : ∃ f fd, FnOk P w K mg base CX0 1 f fd ["self"] (spHL K CK CH) ∧ Binds K fd ["self"] [] ∧ PySem.W.findIn K (.ref CH) "__len__" = some (some (.ref f)) ∧ PySem.W.isFn K (.ref f) = true
  con : ∃ f fd, FnOk P w K mg base CX0 4 f fd ["self", "key"] (spHC K CK CH) ∧ Binds K fd ["self", "key"] [] ∧ PySem.W.findIn K (.ref CH) "__contains__" = some (some (.ref f)) ∧ PySem.W.isFn K (.ref f) = true
def spST (K : PySem.W.Frag) (CK CH : Addr) : Sp := fun vs H Q _ => ∃ h p pl kl d dk c f kvs ks kv2 ks2, vs = [.ref h, .int p, .ref pl, .ref kl] ∧ HostG K CK CH H h d p c f kvs ks ∧ PlainAt H pl dk c f kv2 ks2 ∧ H kl = some (.lst (keyU.map V.int)) ∧
  ∀ H', Same H H' → Q (.bl true) H'
theorem pvs_keysI {H : Hp} {f : Int → T3} {kvs : List (Key × V)} {ks : List Int} (h : PvsAt H f kvs ks) : kvs.map (·.1) = ks.map Sum.inl := by
  unfold PvsAt at h
  induction h with
  | nil => rfl
  | cons hh _ ih => rw [List.map_cons, List.map_cons, ih, hh.1]
section
variable {P : Program} {w : World} {K : PySem.W.Frag} {mg : Str → Option Value} {base : Heap} {CK CH cB fIt : Addr}
theorem scST : FnScope ["host", "place", "plain", "keys", "key", "odd"] ["host", "place", "plain", "keys"] (defScope sST) := ⟨rfl, rfl, rfl, by decide +kernel, rfl, by decide +kernel, by decide +kernel⟩
theorem ok_st {f : Addr} {fd : FuncData} (F : Fun K "_law_stands" "_law_stands" sST f fd) (T : B1 mg) (HF : HoF P w K mg base CK CH cB fIt) (HM : HoM P w K mg base CK CH) (made : Cal P w K mg base "_law_made" 5 ["told"] (spLM K CK)) : FnOk P w K mg base CX0 8 f fd ["host", "place", "plain", "keys"] (spST K CK CH) := by
  obtain ⟨fM, dM, gM, GM, kM, bM⟩ := made.ex
  obtain ⟨fKe, dKe, FKe, OKe, nfK⟩ := HF.ke
  obtain ⟨fHK, dHK, MHK, GHK_, bHK⟩ := HF.hk
  obtain ⟨fHL, dHL, GHL, bHL, sHL, fnHL⟩ := HM.len
  obtain ⟨fHC, dHC, GHC, bHC, sHC, fnHC⟩ := HM.con
  have GHK := KZ.FnOk.x0 GHK_
  have IT := HF.it
  have AH := HF.AH
  refine F.ok scST (fun vs H Q E h => ?_) (fun cdv A' outer s H vs Q E hr h => ?_)
  · obtain ⟨h, p, pl, kl, d, dk, c, f, kvs, ks, kv2, ks2, rfl, _⟩ := h
    rfl
  · obtain ⟨h, p, pl, kl, d, dk, c, f, kvs, ks, kv2, ks2, rfl, hg, pa, hkl, q⟩ := h
    have hr7 : Room 7 _ := hr
    have hr5 : Room 5 _ := hr.mono (by decide)
    have hr4 : Room 4 _ := hr.mono (by decide)
    have hr3 : Room 3 _ := hr.mono (by decide)
    have hr2 : Room 2 _ := hr.mono (by decide)
    refine ⟨_, (pss_cons (ps_if (pt_cmpR (op_neD hr.units) (pe_tup (pa_cons (pe_fldK K (pv 0) rfl) (pa_cons (pe_fldK K (pv 0) rfl) (pa_cons (pe_lock (pe_callTy (call_listOwnK rfl IT GHL bHL sHL fnHL hr3 hr4) (by rfl) T.list (by decide +kernel) (pa_cons (pv 0) pa_nil))) (pa_cons (pe_callB (call_lenOwn GHL bHL sHL fnHL pass0 hr2) (by rfl) T.len PySem.boot_len (pa_cons (pv 0) pa_nil)) pa_nil))))) (pe_tup (pa_cons (pv 1) (pa_cons (pe_dget (hu_of hr) (pv 2) pe_str (fun _ _ => rfl)) (pa_cons (pe_callB (call_sortedDI rfl) (by rfl) T.sorted (by decide +kernel) (pa_cons (pe_dget (hu_of hr) (pv 2) pe_str (fun _ _ => rfl)) pa_nil)) (pa_cons (pe_callB call_lenR (by rfl) T.len PySem.boot_len (pa_cons (pe_dget (hu_of hr) (pv 2) pe_str (fun _ _ => rfl)) pa_nil)) pa_nil))))) (nomark _))
(pss_one (ps_ret pe_bl))
pss_nil)
(pss_cons (ps_for PassesOwn.never rfl (pi_list (pv 3)) (pg_name (i := 4) scST.nd rfl (Or.inl rfl))
(pss_one (ps_if (PW.pt (pw_or (pt_cmpR (op_neO FKe OKe pass0 hr2) (pe_meth (pv 0) AH.cl MHK GHK hr7 bHK .nil pass0 (pa_cons (pv 4) pa_nil)) (pe_call GM hr5 (by rfl) gM kM bM .nil pass0 (pa_cons (pe_dget2 (hu_of hr) (pe_dget (hu_of hr) (pv 2) pe_str (fun _ _ => rfl)) (pv 4) (pe_tup (pa_cons (pe_tup (pa_cons pe_int (pa_cons pe_str pa_nil))) (pa_cons pe_non (pa_cons pe_non pa_nil)))) ⟨rfl, rfl, rfl, rfl⟩) pa_nil)) (nomark _)) (pw_or1 (pt_cmpR op_ne (pe_cmpR (op_inOwn GHC bHC sHC fnHC pass0 hr4) (pv 4) (pv 0) (by rfl)) (pe_cmp (pc_din (hu_of hr) (pv 4) (pe_dget (hu_of hr) (pv 2) pe_str (fun _ _ => rfl)))) (nomark _)))))
(pss_one (ps_ret pe_bl))
pss_nil)))
(pss_one (ps_ret (pe_cmpR (op_eqD hr.units) (pe_lc (own := [("odd", 5)]) (g := gName 5) (by rfl) scST.nd (pi_sq (pe_tup (pa_cons pe_non (pa_cons pe_bl (pa_cons pe_str (pa_cons (pe_un un_neg pe_int) (pa_cons (pe_tup (pa_cons pe_int pa_nil)) (pa_cons (pe_op op_pow pe_int pe_int) pa_nil)))))))) (blkOk_by (own := [("odd", 5)]) (N := ["host", "place", "plain", "keys", "key", "odd"]) (sc := defScope sST) (by decide +kernel)) (fun _ _ _ _ _ => pg_name (i := 5) scST.nd rfl (Or.inl rfl)) (fun _ _ _ _ _ => pts_one (pt_cmpR (op_inOwn GHC bHC sHC fnHC pass0 hr4) (pv 5) (pv 0) (by rfl))) (fun _ _ _ _ _ => pv 5)) (pe_lst pa_nil) (nomark _)))))), ?_⟩
    obtain ⟨dx, hah⟩ := hg.l.at_
    have no : ∀ x ∈ hF, NoAttr K CH x := AH.no
    have lkv : kvs.length = ks.length := Paired.length hg.l.kv
    have few := hg.few
    refine ⟨.ref h, rfl, h, CH, dx, _, .int p, rfl, hah, AH.cl, no _ (by decide), rfl, .ref h, rfl, h, CH, dx, _, .int c, rfl, hah, AH.cl, no _ (by decide), rfl, ?_⟩
    refine ⟨d, .dK kvs, hg.d, trivial, fun od => ?_⟩
    have hneq : h ≠ d := fun z => by
      have e := hah
      rw [z, hg.d] at e
      cases e
    have hL1 : HostL K CK CH (upd H d (.frz od (.dK kvs))) h d p c f kvs ks := ⟨⟨dx, by rw [upd_ne hneq]; exact hah⟩, .inr ⟨od, upd_same⟩, kvs_upd hg.d hg.l.kv, hg.l.iff⟩
    refine ⟨.ref h, rfl, h, dx, _, d, od, kvs, rfl, by rw [upd_ne hneq]; exact hah, rfl, upd_same, by rw [lkv, sizeLine_eq]; omega, fun l1 hl1 => ⟨⟨h, d, p, c, f, kvs, ks, rfl, hL1.mono (same_new hl1), by rw [lkv], rfl⟩, ?_⟩⟩
    have ne1 : d ≠ l1 := fun z => by rw [← z, upd_same] at hl1; cases hl1
    refine ⟨by rw [upd_ne ne1, upd_same], ?_⟩
    rw [kvs_keys hg.l.kv]
    generalize eH1 : upd (upd (upd H d (.frz od (.dK kvs))) l1 (.lst (ks.map V.int))) d (.dK kvs) = H1
    have hl1' : H l1 = none := by rw [upd_ne ne1.symm] at hl1; exact hl1
    have s1 : Same H H1 := fun b o z => by
      rw [← eH1]
      by_cases hb : b = d
      · rw [hb, upd_same]
        rw [hb, hg.d] at z
        exact z
      · rw [upd_ne hb, upd_ne (fun z2 => by rw [z2, hl1'] at z; cases z), upd_ne hb]
        exact z
    have t1 : H1 l1 = some (.lst (ks.map V.int)) := by rw [← eH1, upd_ne ne1.symm, upd_same]
    clear eH1 hl1 hl1' hL1
    have hg1 := hg.mono s1
    have pa1 := pa.mono s1
    refine ⟨.ref h, rfl, h, dx, _, rfl, s1 _ _ hah, ⟨h, d, p, c, f, kvs, ks, rfl, hg1.l, ks.length, rfl, by omega, ?_⟩⟩
    refine ⟨by show 4 ≤ sizeLine; decide, fun T1 hT1 => ?_⟩
    have s2 := same_new (o := .tup [.int p, .int c, .ref l1, .int ks.length]) hT1
    have tt1 : (upd H1 T1 (.tup [.int p, .int c, .ref l1, .int ks.length])) T1 = some (.tup [.int p, .int c, .ref l1, .int ks.length]) := upd_same
    generalize upd H1 T1 (.tup [.int p, .int c, .ref l1, .int ks.length]) = H2 at s2 tt1 ⊢
    have pa2 := pa1.mono s2
    have ek2 : kv2.map (·.1) = ks2.map Sum.inl := pvs_keysI pa2.kv
    have few2 : ks2.length ≤ 4 := len_sub ks2 keyU pa.nd pa.sub
    refine ⟨.int p, rfl, .ref pl, rfl, pl, .int c, rfl, .inl ⟨_, Sum.inr "closed", .inl pa2.a, rfl, rfl⟩, .ref pl, rfl, pl, .ref dk, rfl, .inl ⟨_, Sum.inr "kept", .inl pa2.a, rfl, rfl⟩, dk, kv2, ks2, rfl, .inl pa2.d, ek2, by omega, fun ys l2 pm pw hl2 => ?_⟩
    have eys : ys = ks := by
      refine List.Perm.eq_of_pairwise (le := (· ≤ ·)) (fun a b _ _ h1 h2 => Int.le_antisymm h1 h2) pw hg.srt (pm.trans ?_)
      exact (List.perm_ext_iff_of_nodup pa.nd hg.nd).mpr fun k => by rw [pa.iff k, hg.l.iff k]
    subst eys
    have s3 := s2.trans (same_new (o := .lst (ys.map V.int)) hl2)
    have t2 : (upd H2 l2 (.lst (ys.map V.int))) l2 = some (.lst (ys.map V.int)) := upd_same
    have tt2 := same_new (o := .lst (ys.map V.int)) hl2 _ _ tt1
    generalize upd H2 l2 (.lst (ys.map V.int)) = H3 at s3 t2 tt2 ⊢
    have pa3 := pa1.mono s3
    refine ⟨.ref pl, rfl, pl, .ref dk, rfl, .inl ⟨_, Sum.inr "kept", .inl pa3.a, rfl, rfl⟩, dk, kv2, rfl, .inl pa3.d, by show 4 ≤ sizeLine; decide, fun T2 hT2 => ?_⟩
    rw [show kv2.length = ys.length by rw [show kv2.length = ks2.length from Paired.length pa3.kv, pm.length_eq]]
    have s4 := s3.trans (same_new (o := .tup [.int p, .int c, .ref l2, .int ys.length]) hT2)
    have n4 := same_new (o := .tup [.int p, .int c, .ref l2, .int ys.length]) hT2
    have tt3 : (upd H3 T2 (.tup [.int p, .int c, .ref l2, .int ys.length])) T2 = some (.tup [.int p, .int c, .ref l2, .int ys.length]) := upd_same
    generalize upd H3 T2 (.tup [.int p, .int c, .ref l2, .int ys.length]) = H4 at s4 n4 tt3 ⊢
    have can : PyData.canLay0 (.tuple [.int p, .int c, .list (ys.map PyData.int), .int ys.length]) = true := by
      show (true && (true && (PyData.canLayAll0 (ys.map PyData.int) && (true && true)))) = true
      rw [can_ints]
      rfl
    have shp : SeqAt.shaped (.tuple [.int p, .int c, .list (ys.map PyData.int), .int ys.length]) = true := by
      unfold SeqAt.shaped
      rw [can, decide_eq_true (by
        show max 0 (max 0 (max (PyData.depthAll (ys.map PyData.int) + 1) (max 0 0))) + 1 ≤ 64
        rw [depth_ints]
        decide)]
      rfl
    refine ⟨_, _, .tup (SqT.of (n4 _ _ tt2)) (.cons (.int _) (.cons (.int _) (.cons (.lst (SqL.of (s4 _ _ t1)) (dp_ints _)) (.cons (.int _) .nil)))), .tup (SqT.of tt3) (.cons (.int _) (.cons (.int _) (.cons (.lst (SqL.of (n4 _ _ t2)) (dp_ints _)) (.cons (.int _) .nil)))), shp, shp, _, rfl, ?_⟩
    rw [PySem.SeqAt.eqv_refl _ can]
    refine iteF ?_
    have s14 := s1.trans s4
    refine ⟨.ref kl, rfl, kl, rfl, ⟨_, SqL.of (s14 _ _ hkl)⟩, ?_⟩
    refine for_it (walk_list (K := K) (a := kl) (xs := keyU.map V.int)) (fun i σ H' => (∃ x4 x5, σ = [some (.ref h), some (.int p), some (.ref pl), some (.ref kl), x4, x5]) ∧ Same H H') ⟨⟨_, _, rfl⟩, s14⟩ (fun i σ H' _ z => SqL.of (z.2 _ _ hkl)) ?_ ?_
    · rintro i y _ H5 H6 hi ⟨⟨x4, x5, rfl⟩, c1⟩ ⟨rfl, hy⟩
      obtain ⟨key, rfl, mk⟩ : ∃ key, y = .int key ∧ key ∈ keyU := by
        rw [List.getElem?_map] at hy
        cases e : keyU[i]? with
        | none => rw [e] at hy; cases hy
        | some z => rw [e] at hy; exact ⟨z, (Option.some.inj hy).symm, List.mem_of_getElem? e⟩
      have hg5 := hg.mono c1
      have pa5 := pa.mono c1
      dsimp only [gName]
      refine ⟨.ref h, rfl, h, dx, _, rfl, c1 _ _ hah, rfl, .int key, rfl, h, .int key, .int key, d, p, c, f, kvs, _, rfl, .int key, trivial, hg5.l, fun i' ei hi' b H6 s6 kt => ?_, fun z => absurd (within_pl (u_pl key mk)) (by rw [z]; exact Bool.false_ne_true)⟩
      cases ei
      have pa6 := pa5.mono s6
      refine ⟨.ref pl, rfl, pl, .ref dk, rfl, .inl ⟨_, Sum.inr "kept", .inl pa6.a, rfl, rfl⟩, dk, rfl, .inl ⟨kv2, .inl pa6.d⟩, .int key, rfl, by show 2 ≤ sizeLine; decide, fun S hS => ⟨by show 3 ≤ sizeLine; decide, fun M hM => ?_⟩⟩
      have s7 : Same H6 (upd (upd H6 S (.tup [.int 0, .str ""])) M (.tup [.ref S, .non, .non])) := (same_new hS).trans (same_new hM)
      have hM1 : TpAt (upd (upd H6 S (.tup [.int 0, .str ""])) M (.tup [.ref S, .non, .non])) M .no := ⟨S, upd_same, same_new hM _ _ upd_same⟩
      generalize upd (upd H6 S (.tup [.int 0, .str ""])) M (.tup [.ref S, .non, .non]) = H7 at s7 hM1 ⊢
      have pa7 := pa6.mono s7
      obtain ⟨m0, hm0, hmT⟩ : ∃ m0, (valV kv2 (Sum.inl key : Key)).getD (.ref M) = .ref m0 ∧ TpAt H7 m0 (f key) := by
        rcases pvs_val pa7.kv key with ⟨m, b, hv, tp⟩ | ⟨m, hv⟩
        · exact ⟨b, by rw [hv]; rfl, tp⟩
        · refine ⟨M, by rw [hv]; rfl, ?_⟩
          have fz : f key = .no := by
            by_cases z : f key = .no
            · exact z
            · exact absurd ((pa.iff key).mpr z) m
          rw [fz]
          exact hM1
      refine ⟨_, .inl ⟨kv2, Sum.inl key, .inl pa7.d, rfl, rfl⟩, ?_⟩
      rw [hm0]
      refine ⟨m0, f key, rfl, hmT, fun b2 H8 s8 kt2 => ?_⟩
      have kt8 := kt.mono (s7.trans s8)
      have s58 := s6.trans (s7.trans s8)
      have hg8 := hg5.mono s58
      have pa8 := pa5.mono s58
      obtain ⟨dxk, _, _, _, ekp, _⟩ := id kt8
      obtain ⟨_, _, _, _, ekn, _⟩ := id kt2
      refine ⟨b, dxk, _, .ref CK, rfl, ekp, HF.AK.ty _ _ _ _ ekn, nfK, spE_kt kt8 kt2 (hg.ok key) (hg.ok key) ⟨_, rfl, _, rfl, ?_⟩⟩
      rw [decide_eq_true rfl]
      refine iteF ⟨.int key, rfl, .ref h, rfl, h, dx, _, rfl, s58 _ _ (c1 _ _ hah), h, .int key, .int key, d, p, c, f, kvs, _, rfl, .int key, hg8.l, fun i' ei hi' => ⟨_, rfl, ?_⟩, fun z => absurd (within_pl (u_pl key mk)) (by rw [z]; exact Bool.false_ne_true)⟩
      cases ei
      refine ⟨.int key, rfl, .ref pl, rfl, pl, .ref dk, rfl, .inl ⟨_, Sum.inr "kept", .inl pa8.a, rfl, rfl⟩, dk, _, rfl, .inl ⟨kv2, Sum.inl key, .inl pa8.d, rfl, rfl⟩, rfl, _, rfl, ?_⟩
      have eb : (valV kv2 (Sum.inl key : Key)).isSome = decide (key ∈ ks2) := by
        rcases pvs_val pa8.kv key with ⟨m, b, hv, tp⟩ | ⟨m, hv⟩
        · rw [hv, decide_eq_true m]
          rfl
        · rw [hv, decide_eq_false m]
          rfl
      have ek : decide (key ∈ ys) = decide (key ∈ ks2) := decide_eq_decide.mpr (pm.mem_iff)
      rw [eb, ek]
      have e0 : (!decide (V.bl (false != decide (key ∈ ks2)) = V.bl (decide (key ∈ ks2)))) = false := by
        cases decide (key ∈ ks2) <;> decide
      rw [e0]
      exact iteF ⟨⟨_, _, rfl⟩, c1.trans s58⟩
    rintro _ H5 ⟨⟨x4, x5, rfl⟩, c1⟩
    have hg5 := hg.mono c1
    refine ⟨1, rfl, by show 1 ≤ sizeLine; decide, fun T5 hT5 => ?_⟩
    refine ⟨10, 9, rfl, rfl, (pow_b (x := 10) (b := 9) (by decide) (by decide)).mpr (by decide), by show 6 ≤ sizeLine; decide, fun T6 hT6 => ?_⟩
    have s6 : Same H5 (upd (upd H5 T5 (.tup [.int 5])) T6 (.tup [.non, .bl true, .str "5", .int (-1), .ref T5, .int (10 ^ (9 : Int).toNat)])) := (same_new hT5).trans (same_new hT6)
    have t6 : (upd (upd H5 T5 (.tup [.int 5])) T6 (.tup [.non, .bl true, .str "5", .int (-1), .ref T5, .int (10 ^ (9 : Int).toNat)])) T6 = some (.tup [.non, .bl true, .str "5", .int (-1), .ref T5, .int (10 ^ (9 : Int).toNat)]) := upd_same
    have t5 : (upd (upd H5 T5 (.tup [.int 5])) T6 (.tup [.non, .bl true, .str "5", .int (-1), .ref T5, .int (10 ^ (9 : Int).toNat)])) T5 = some (.tup [.int 5]) := same_new hT6 _ _ upd_same
    refine ⟨T6, _, rfl, .inr (SqT.of t6), fun J G wk hG D hD => ?_⟩
    generalize (upd (upd H5 T5 (.tup [.int 5])) T6 (.tup [.non, .bl true, .str "5", .int (-1), .ref T5, .int (10 ^ (9 : Int).toNat)])) = H6 at s6 t6 t5 hD hG ⊢
    refine lc_it wk (fun i H' => Same H6 H' ∧ H' D = some (.lst [])) ⟨same_new hD, upd_same⟩ (fun i H' _ z => hG _ z.1) ?_ ?_
    · rintro i y _ H7 hi ⟨c7, d7⟩ ⟨rfl, hy⟩
      have odd : ∃ dd, Dv K H7 y dd ∧ within 0 999999999 dd = false := by
        match i, hy with
        | 0, hy => cases hy; exact ⟨_, .non, rfl⟩
        | 1, hy => cases hy; exact ⟨_, .bl _, rfl⟩
        | 2, hy => cases hy; exact ⟨_, .str _, rfl⟩
        | 3, hy => cases hy; exact ⟨_, .int _, by decide⟩
        | 4, hy => cases hy; exact ⟨_, .tup (SqT.of (c7 _ _ t5)) (.cons (.int _) .nil), rfl⟩
        | 5, hy => cases hy; exact ⟨_, .int _, by decide⟩
      obtain ⟨dd, dv, hw⟩ := odd
      have s17 := c1.trans (s6.trans c7)
      refine ⟨rfl, _, rfl, .ref h, rfl, h, dx, _, rfl, s17 _ _ hah, h, y, dd, d, p, c, f, kvs, _, rfl, dv, hg.l.mono s17, fun i' ei hi' => ?_, fun _ => ⟨false, rfl, _, rfl, ?_⟩⟩
      · rw [ei, within_pl hi'] at hw
        cases hw
      · show (if false = true then _ else _)
        rw [if_neg Bool.false_ne_true]
        exact ⟨c7, d7⟩
    rintro H7 ⟨c7, d7⟩
    refine ⟨Nat.zero_le _, fun N hN => ?_⟩
    refine ⟨.list [], .list [], .lst (SqL.of (same_new hN _ _ d7)) .nil, .lst (SqL.of upd_same) .nil, by decide, by decide, ?_⟩
    exact q _ (c1.trans (s6.trans (c7.trans (same_new hN))))
end
end K27
end

section
set_option Elab.async false
set_option linter.all false
set_option maxRecDepth 100000
set_option maxHeartbeats 4000000
/-! answers as they are compared -/
namespace K27
open PySem PySem.Spec L2 KZ
def DA0 (K : PySem.W.Frag) (CK : Addr) : Eqv := fun x y H => DFlat x y H ∨ DKt K CK x y H true
def DAn (K : PySem.W.Frag) (CK : Addr) (D : Eqv) : Eqv := fun x y H => DA0 K CK x y H ∨ DTup K D x y H
abbrev DA3 (K : PySem.W.Frag) (CK : Addr) : Eqv := DAn K CK (DAn K CK (DAn K CK (DA0 K CK)))
theorem mon_kt {K : PySem.W.Frag} {CK : Addr} : Mon (fun x y H => DKt K CK x y H true) := fun x y H H' s ⟨a, b, t, u, e1, e2, h1, h2, o1, o2, r⟩ => ⟨a, b, t, u, e1, e2, h1.mono s, h2.mono s, o1, o2, r⟩
theorem mon0 {K : PySem.W.Frag} {CK : Addr} : Mon (DA0 K CK) := mon_flat.or mon_kt
theorem monN {K : PySem.W.Frag} {CK : Addr} {D : Eqv} (h : Mon D) : Mon (DAn K CK D) := mon0.or (mon_tup h)
theorem mon3 {K : PySem.W.Frag} {CK : Addr} : Mon (DA3 K CK) := monN (monN (monN mon0))
section
variable {X : Cx} {CK f : Addr} {fd : FuncData}
theorem eqG_kt (F : FnOk X.prog X.w X.K X.mg X.base CX0 1 f fd ["self", "other"] (spEqC X.K CK kF (rKE X.K))) (O : OwnEqF X.K CK f fd ["self", "other"]) : EqG X 1 (fun x y H => DKt X.K CK x y H true) := by
  intro A pins s σ H x y u v sb I rx ry d
  exact eqB_kt F O A pins s σ H x y u v true sb I rx ry d _ _ fun s' I' => ⟨rfl, H, I', Ext.rfl'⟩
theorem eqG0 (h : EqG X 1 (fun x y H => DKt X.K CK x y H true)) : EqG X 1 (DA0 X.K CK) := (eqG_flat.mono (Nat.zero_le _)).or h
theorem eqGN {n : Nat} {D : Eqv} (h0 : EqG X 1 (DA0 X.K CK)) (hm : Mon D) (h : EqG X (n + 1) D) : EqG X (n + 2) (DAn X.K CK D) := (h0.mono (by omega)).or (eqG_tup hm h)
theorem eqG3 (h : EqG X 1 (fun x y H => DKt X.K CK x y H true)) : EqG X 4 (DA3 X.K CK) := eqGN (n := 2) (eqG0 h) (monN (monN mon0)) (eqGN (n := 1) (eqG0 h) (monN mon0) (eqGN (n := 0) (eqG0 h) mon0 (eqG0 h)))
end
theorem d_int {K : PySem.W.Frag} {CK : Addr} {H : Hp} (i : Int) : DA0 K CK (.int i) (.int i) H := .inl ⟨rfl, rfl, by simp [eqV]⟩
theorem d_str {K : PySem.W.Frag} {CK : Addr} {H : Hp} (i : Str) : DA0 K CK (.str i) (.str i) H := .inl ⟨rfl, rfl, by simp [eqV]⟩
theorem d_kt {K : PySem.W.Frag} {CK : Addr} {H : Hp} {a b : Addr} {t : T3} (h1 : KtAt K CK H a t) (h2 : KtAt K CK H b t) (ok : t.Ok) : DA0 K CK (.ref a) (.ref b) H := .inr ⟨a, b, t, t, rfl, rfl, h1, h2, ok, ok, (decide_eq_true rfl).symm⟩
def Ans.Ok : Ans → Prop
  | .fenced _ ps => ∀ p ∈ ps, p.2.Ok
  | .heard _ _ t => t.Ok
  | _ => True
theorem pairs_eq {K : PySem.W.Frag} {CK : Addr} {H : Hp} : ∀ {vs ws : List V} {ps : List (Int × T3)}, Paired (PairAt K CK H) vs ps → Paired (PairAt K CK H) ws ps → (∀ p ∈ ps, p.2.Ok) → Prs (DAn K CK (DA0 K CK)) vs ws H := by
  intro vs ws ps h1
  induction h1 generalizing ws with
  | nil =>
    intro h2 _
    cases h2
    exact Prs.nil
  | cons a _ ih =>
    intro h2 ok
    cases h2 with
    | cons b h2 =>
      refine Prs.cons ?_ (ih h2 fun p m => ok p (List.mem_cons_of_mem _ m))
      obtain ⟨q, x, rfl, hq, kx⟩ := a
      obtain ⟨q', x', rfl, hq', kx'⟩ := b
      exact .inr ⟨q, q', _, _, rfl, rfl, SqT.of hq, SqT.of hq', Prs.cons (d_int _) (Prs.cons (d_kt kx kx' (ok _ List.mem_cons_self)) Prs.nil)⟩
/-- the same answer, told twice -/
theorem ans_eq {K : PySem.W.Frag} {CK : Addr} {H : Hp} {a b : Addr} {x : Ans} (h1 : AnsAt K CK H a x) (h2 : AnsAt K CK H b x) (ok : x.Ok) : DTup K (DA3 K CK) (.ref a) (.ref b) H := by
  have int3 : ∀ (D : Eqv) (i : Int), DAn K CK D (.int i) (.int i) H := fun D i => .inl (d_int i)
  have str3 : ∀ (D : Eqv) (i : Str), DAn K CK D (.str i) (.str i) H := fun D i => .inl (d_str i)
  cases x with
  | fenced e ps =>
    obtain ⟨q, r, vs, e1, e2, e3, p⟩ := h1
    obtain ⟨q', r', vs', f1, f2, f3, p'⟩ := h2
    exact ⟨a, b, _, _, rfl, rfl, SqT.of e1, SqT.of f1, Prs.cons (str3 _ _) (Prs.cons (.inr ⟨q, q', _, _, rfl, rfl, SqT.of e2, SqT.of f2, Prs.cons (int3 _ _) (Prs.cons (.inr ⟨r, r', _, _, rfl, rfl, SqT.of e3, SqT.of f3, pairs_eq p p' ok⟩) Prs.nil)⟩) Prs.nil)⟩
  | swept e key =>
    obtain ⟨q, e1, e2⟩ := h1
    obtain ⟨q', f1, f2⟩ := h2
    exact ⟨a, b, _, _, rfl, rfl, SqT.of e1, SqT.of f1, Prs.cons (str3 _ _) (Prs.cons (.inr ⟨q, q', _, _, rfl, rfl, SqT.of e2, SqT.of f2, Prs.cons (int3 _ _) (Prs.cons (int3 _ _) Prs.nil)⟩) Prs.nil)⟩
  | refused i m c =>
    obtain ⟨q, e1, e2⟩ := h1
    obtain ⟨q', f1, f2⟩ := h2
    exact ⟨a, b, _, _, rfl, rfl, SqT.of e1, SqT.of f1, Prs.cons (str3 _ _) (Prs.cons (.inr ⟨q, q', _, _, rfl, rfl, SqT.of e2, SqT.of f2, Prs.cons (int3 _ _) (Prs.cons (int3 _ _) (Prs.cons (int3 _ _) Prs.nil))⟩) Prs.nil)⟩
  | heard i m t =>
    obtain ⟨q, k, e1, e2, kt⟩ := h1
    obtain ⟨q', k', f1, f2, kt'⟩ := h2
    exact ⟨a, b, _, _, rfl, rfl, SqT.of e1, SqT.of f1, Prs.cons (str3 _ _) (Prs.cons (.inr ⟨q, q', _, _, rfl, rfl, SqT.of e2, SqT.of f2, Prs.cons (int3 _ _) (Prs.cons (int3 _ _) (Prs.cons (.inl (d_kt kt kt' ok)) Prs.nil))⟩) Prs.nil)⟩
  | kept i m =>
    obtain ⟨q, e1, e2⟩ := h1
    obtain ⟨q', f1, f2⟩ := h2
    exact ⟨a, b, _, _, rfl, rfl, SqT.of e1, SqT.of f1, Prs.cons (str3 _ _) (Prs.cons (.inr ⟨q, q', _, _, rfl, rfl, SqT.of e2, SqT.of f2, Prs.cons (int3 _ _) (Prs.cons (int3 _ _) Prs.nil)⟩) Prs.nil)⟩
/-- what is answered is well -/
theorem stepA_ok {c : Int} {f : Int → T3} {ks : List Int} {l : Ltr} (h : ∀ k, (f k).Ok) : (stepA c f ks l).Ok := by
  cases l with
  | fence e =>
    intro p m
    obtain ⟨k, _, rfl⟩ := List.mem_map.mp m
    exact h k
  | sweep e key t => trivial
  | hear a m e key =>
    show Ans.Ok (if decide (e ≤ c) = true then _ else _)
    split
    · trivial
    · exact h key
  | keep a m e key t =>
    show Ans.Ok (if decide (e ≤ c) = true then _ else _)
    split <;> trivial
end K27
end

section
set_option Elab.async false
set_option linter.all false
set_option maxRecDepth 100000
set_option maxHeartbeats 4000000
/-! what stays while the pen is drawn from -/
namespace K27
open PySem PySem.Spec L2 KZ
theorem kept_same {p : Addr} {H H' : Hp} {o : HO} (k : Kept p H H') (h : H' p = some o) : Same (upd H p o) H' := fun b u e => by
  by_cases hb : b = p
  · rw [hb, upd_same] at e
    rw [hb, h]
    exact e
  · rw [upd_ne hb] at e
    exact k b u hb e
theorem tp_updL {H : Hp} {d a : Addr} {t : T3} {xs : List V} {o : HO} (hd : H d = some (.lst xs)) (h : TpAt H a t) : TpAt (upd H d o) a t := by
  obtain ⟨s, h1, h2⟩ := h
  exact ⟨s, by rw [upd_ne (fun z => by rw [z, hd] at h1; cases h1)]; exact h1, by rw [upd_ne (fun z => by rw [z, hd] at h2; cases h2)]; exact h2⟩
theorem HostG.updL {K : PySem.W.Frag} {CK CH : Addr} {H : Hp} {q : Addr} {xs : List V} {o : HO} {a d : Addr} {p c : Int} {f : Int → T3} {kvs : List (Key × V)} {ks : List Int} (hq : H q = some (.lst xs)) (h : HostG K CK CH H a d p c f kvs ks) : HostG K CK CH (upd H q o) a d p c f kvs ks := by
  obtain ⟨dx, ha⟩ := h.l.at_
  have na : a ≠ q := fun z => by rw [z, hq] at ha; cases ha
  have nd : d ≠ q := fun z => by
    have e := h.d
    rw [z, hq] at e
    cases e
  have hd : (upd H q o) d = some (.dK kvs) := by rw [upd_ne nd]; exact h.d
  exact ⟨⟨⟨dx, by rw [upd_ne na]; exact ha⟩, .inl hd, Paired.mapP h.l.kv fun _ _ ⟨e, b, e2, k⟩ => ⟨e, b, e2, kt_updL hq k⟩, h.l.iff⟩, hd, h.ok, h.pl, h.kpl, h.nd, h.srt⟩
theorem PlainAt.updL {H : Hp} {q : Addr} {xs : List V} {o : HO} {a dk : Addr} {c : Int} {f : Int → T3} {kvs : List (Key × V)} {ks : List Int} (hq : H q = some (.lst xs)) (h : PlainAt H a dk c f kvs ks) : PlainAt (upd H q o) a dk c f kvs ks := by
  have e1 := h.a
  have e2 := h.d
  exact ⟨by rw [upd_ne (fun z => by rw [z, hq] at e1; cases e1)]; exact e1, by rw [upd_ne (fun z => by rw [z, hq] at e2; cases e2)]; exact e2, Paired.mapP h.kv fun _ _ ⟨e, b, e3, k⟩ => ⟨e, b, e3, tp_updL hq k⟩, h.iff, h.nd, h.sub, h.ok⟩
theorem HostG.kept {K : PySem.W.Frag} {CK CH : Addr} {H H' : Hp} {q cc : Addr} {cells : List Int} {n m : Nat} {a d : Addr} {p c : Int} {f : Int → T3} {kvs : List (Key × V)} {ks : List Int} (pn : PenAt H q cc cells n) (pn' : PenAt H' q cc cells m) (k : Kept q H H') (h : HostG K CK CH H a d p c f kvs ks) : HostG K CK CH H' a d p c f kvs ks := by
  obtain ⟨_, _, e1, _⟩ := pn.ex
  obtain ⟨_, _, e2, _⟩ := pn'.ex
  exact (h.updL e1).mono (kept_same k e2)
theorem PlainAt.kept {H H' : Hp} {q cc : Addr} {cells : List Int} {n m : Nat} {a dk : Addr} {c : Int} {f : Int → T3} {kvs : List (Key × V)} {ks : List Int} (pn : PenAt H q cc cells n) (pn' : PenAt H' q cc cells m) (k : Kept q H H') (h : PlainAt H a dk c f kvs ks) : PlainAt H' a dk c f kvs ks := by
  obtain ⟨_, _, e1, _⟩ := pn.ex
  obtain ⟨_, _, e2, _⟩ := pn'.ex
  exact (h.updL e1).mono (kept_same k e2)
end K27
end

section
set_option Elab.async false
set_option linter.all false
set_option maxRecDepth 100000
set_option maxHeartbeats 4000000
/-! what stays while the law's own store changes -/
namespace K27
open PySem PySem.Spec L2 KZ
/-- what an answer cares for: a tuple, or a list that is not empty -/
def CareAt (H : Hp) (cr : Addr) (cs : List Str) : Prop := H cr = some (.tup (cs.map V.str)) ∨ (H cr = some (.lst (cs.map V.str)) ∧ cs ≠ [])
theorem CareAt.mono {H H' : Hp} {cr : Addr} {cs : List Str} (s : Same H H') (h : CareAt H cr cs) : CareAt H' cr cs := h.elim (fun z => .inl (s _ _ z)) fun z => .inr ⟨s _ _ z.1, z.2⟩
theorem CareAt.sq {K : PySem.W.Frag} {H : Hp} {cr : Addr} {cs : List Str} (h : CareAt H cr cs) : Sq K H cr (cs.map V.str) := h.elim (fun z => .inr (SqT.of z)) fun z => .inl (SqL.of z.1)
def csL : List (List Str) := [[], ["names"], ["older"], ["names", "older"], ["back"]]
theorem cs_sh : ∀ cs ∈ csL, SeqAt.shaped (.tuple (cs.map PyData.str)) = true ∧ PyData.eqv (.tuple (cs.map PyData.str)) (.tuple []) = decide (cs = []) := by decide +kernel
theorem cs_dp {K : PySem.W.Frag} {H : Hp} : ∀ cs : List Str, DpAll K H (cs.map V.str) (cs.map PyData.str)
  | [] => .nil
  | s :: r => .cons (.str s) (cs_dp r)
theorem CareAt.ne {K : PySem.W.Frag} {H : Hp} {cr et : Addr} {cs : List Str} (h : CareAt H cr cs) (hc : cs ∈ csL) (he : H et = some (.tup [])) : ∃ r, NeA K H (.ref cr) (.ref et) r ∧ (r = true → cs = []) := by
  rcases h with h | ⟨h, ne⟩
  · refine ⟨PyData.eqv (.tuple (cs.map PyData.str)) (.tuple []), .dat (.tup (SqT.of h) (cs_dp cs)) (.tup (SqT.of he) .nil) (cs_sh cs hc).1 rfl, fun z => ?_⟩
    rw [(cs_sh cs hc).2] at z
    exact of_decide_eq_true z
  · exact ⟨false, .noL (SqL.of h) (.inr (.inr (.inr ⟨et, [], rfl, SqT.of he⟩))), fun z => nomatch z⟩
theorem if_meth2 {c : Bool} {CH : Addr} {m : Str} {sp : Sp} {d1 d2 : List V} {E : XK} {o : TE} {t1 t2 : TA} {σ : L2.St} {H : Hp} {Q : VK} (P : VK → Prop) (h1 : c = true → ∀ Q, P Q → tMeth CH m sp d1 E o t1 σ H Q) (h2 : c = false → ∀ Q, P Q → tMeth CH m sp d2 E o t2 σ H Q) (h : P Q) :
    if c = true then tMeth CH m sp d1 E o t1 σ H Q else tMeth CH m sp d2 E o t2 σ H Q := by
  cases c with
  | true => exact iteT' (h1 rfl Q h)
  | false => exact iteF' (h2 rfl Q h)
theorem AnsAt.tup {K : PySem.W.Frag} {CK : Addr} {H : Hp} {w : Addr} {x : Ans} (h : AnsAt K CK H w x) : ∃ xs, H w = some (.tup xs) := by
  cases x with
  | fenced e ps => exact let ⟨q, r, vs, h1, _⟩ := h; ⟨_, h1⟩
  | swept e key => exact let ⟨q, h1, _⟩ := h; ⟨_, h1⟩
  | refused a m c => exact let ⟨q, h1, _⟩ := h; ⟨_, h1⟩
  | heard a m t => exact let ⟨q, b, h1, _⟩ := h; ⟨_, h1⟩
  | kept a m => exact let ⟨q, h1, _⟩ := h; ⟨_, h1⟩
theorem PartsAt.mono {K : PySem.W.Frag} {CK : Addr} {H H' : Hp} {r : Addr} {l : Ltr} (s : Same H H') (h : PartsAt K CK H r l) : PartsAt K CK H' r l := by
  cases l with
  | fence e => exact sqT_mono s h
  | sweep e key t => exact let ⟨b, h1, h2⟩ := h; ⟨b, sqT_mono s h1, h2.mono s⟩
  | hear a m e key => exact sqT_mono s h
  | keep a m e key t => exact let ⟨b, h1, h2⟩ := h; ⟨b, sqT_mono s h1, h2.mono s⟩
theorem CareAt.changed {H H' : Hp} {pl dk : Addr} {c : Int} {f : Int → T3} {kvs : List (Key × V)} {ks : List Int} {cr : Addr} {cs : List Str} (pa : PlainAt H pl dk c f kvs ks) (k : ∀ b o, b ≠ dk → b ≠ pl → H b = some o → H' b = some o) (h : CareAt H cr cs) : CareAt H' cr cs := by
  have n : ∀ {o}, H cr = some o → (∀ x : List (Key × V), o ≠ .dK x) → H' cr = some o := fun {o} e ne => k _ _ (fun z => ne _ (Option.some.inj (by rw [← e, z, pa.d]))) (fun z => ne _ (Option.some.inj (by rw [← e, z, pa.a]))) e
  exact h.elim (fun z => .inl (n z fun _ y => nomatch y)) fun z => .inr ⟨n z.1 (fun _ y => nomatch y), z.2⟩
theorem HostG.updD {K : PySem.W.Frag} {CK CH : Addr} {H : Hp} {q : Addr} {xs : List (Key × V)} {o : HO} {a d : Addr} {p c : Int} {f : Int → T3} {kvs : List (Key × V)} {ks : List Int} (hq : H q = some (.dK xs)) (nd : d ≠ q) (h : HostG K CK CH H a d p c f kvs ks) : HostG K CK CH (upd H q o) a d p c f kvs ks := by
  obtain ⟨dx, ha⟩ := h.l.at_
  have na : a ≠ q := fun z => by rw [z, hq] at ha; cases ha
  have hd : (upd H q o) d = some (.dK kvs) := by rw [upd_ne nd]; exact h.d
  exact ⟨⟨⟨dx, by rw [upd_ne na]; exact ha⟩, .inl hd, kvs_upd hq h.l.kv, h.l.iff⟩, hd, h.ok, h.pl, h.kpl, h.nd, h.srt⟩
theorem PlainAt.updD {H : Hp} {q : Addr} {xs : List (Key × V)} {o : HO} {a dk : Addr} {c : Int} {f : Int → T3} {kvs : List (Key × V)} {ks : List Int} (hq : H q = some (.dK xs)) (na : a ≠ q) (nd : dk ≠ q) (h : PlainAt H a dk c f kvs ks) : PlainAt (upd H q o) a dk c f kvs ks :=
  ⟨by rw [upd_ne na]; exact h.a, by rw [upd_ne nd]; exact h.d, pvs_upd hq h.kv, h.iff, h.nd, h.sub, h.ok⟩
theorem plain_same {H H' : Hp} {pl dk : Addr} {o1 o2 : HO} (k : ∀ b o, b ≠ dk → b ≠ pl → H b = some o → H' b = some o) (h1 : H' dk = some o1) (h2 : H' pl = some o2) : Same (upd (upd H dk o1) pl o2) H' := fun b u e => by
  by_cases hb : b = pl
  · rw [hb, upd_same] at e
    rw [hb, h2]
    exact e
  · rw [upd_ne hb] at e
    by_cases hd : b = dk
    · rw [hd, upd_same] at e
      rw [hd, h1]
      exact e
    · rw [upd_ne hd] at e
      exact k b u hd hb e
theorem HostG.nePl {K : PySem.W.Frag} {CK CH : Addr} {H : Hp} {hh d pl dk : Addr} {p c c' : Int} {f g : Int → T3} {kvs kv2 : List (Key × V)} {ks ks2 : List Int} (h : HostG K CK CH H hh d p c f kvs ks) (pa : PlainAt H pl dk c' g kv2 ks2) : d ≠ pl := fun z => by
  have e := h.d
  rw [z, pa.a] at e
  have e2 := HO.dK.inj (Option.some.inj e)
  have kv := h.l.kv
  rw [← e2] at kv
  cases kv with
  | cons hh _ => exact nomatch hh.1
section
variable {K : PySem.W.Frag} {CK CH : Addr} {H H' : Hp} {pl dk : Addr} {c c' : Int} {g g' : Int → T3} {kv2 kv2' : List (Key × V)} {ks2 ks2' : List Int}
/-- the host stays while the law's own store is changed -/
theorem HostG.changed {hh d : Addr} {p ch : Int} {f : Int → T3} {kvs : List (Key × V)} {ks : List Int} (pa : PlainAt H pl dk c g kv2 ks2) (k : ∀ b o, b ≠ dk → b ≠ pl → H b = some o → H' b = some o) (pa' : PlainAt H' pl dk c' g' kv2' ks2') (nd : d ≠ dk) (h : HostG K CK CH H hh d p ch f kvs ks) : HostG K CK CH H' hh d p ch f kvs ks := by
  have npd : pl ≠ dk := pa.ne
  exact ((h.updD pa.d nd (o := .dK kv2')).updD (q := pl) (o := .dK [(Sum.inr "closed", .int c'), (Sum.inr "kept", .ref dk)]) (by rw [upd_ne npd]; exact pa.a) (h.nePl pa)).mono (plain_same k pa'.d pa'.a)
/-- and so does what it was before -/
theorem PlainAt.changed {bl bk : Addr} {cb : Int} {f : Int → T3} {kvs : List (Key × V)} {ks : List Int} (pa : PlainAt H pl dk c g kv2 ks2) (k : ∀ b o, b ≠ dk → b ≠ pl → H b = some o → H' b = some o) (pa' : PlainAt H' pl dk c' g' kv2' ks2') (n1 : bl ≠ dk) (n2 : bl ≠ pl) (n3 : bk ≠ dk) (n4 : bk ≠ pl) (h : PlainAt H bl bk cb f kvs ks) : PlainAt H' bl bk cb f kvs ks := by
  have npd : pl ≠ dk := pa.ne
  exact ((h.updD pa.d n1 n3 (o := .dK kv2')).updD (q := pl) (o := .dK [(Sum.inr "closed", .int c'), (Sum.inr "kept", .ref dk)]) (by rw [upd_ne npd]; exact pa.a) n2 n4).mono (plain_same k pa'.d pa'.a)
end
/-- what a letter tells of a Kept -/
def Ltr.tp : Ltr → T3
  | .sweep _ _ t => t
  | .keep _ _ _ _ t => t
  | _ => .no
/-- all but dicts stay -/
def Stay (H H' : Hp) : Prop := ∀ b o, (∀ x : List (Key × V), o ≠ .dK x) → H b = some o → H' b = some o
theorem stay_of {H H' : Hp} {pl dk : Addr} {c : Int} {f : Int → T3} {kvs : List (Key × V)} {ks : List Int} (pa : PlainAt H pl dk c f kvs ks) (k : ∀ b o, b ≠ dk → b ≠ pl → H b = some o → H' b = some o) : Stay H H' := fun b o ne e => k _ _ (fun z => by
    have d := pa.d
    rw [← z, e] at d
    exact ne _ (Option.some.inj d)) (fun z => by
    have d := pa.a
    rw [← z, e] at d
    exact ne _ (Option.some.inj d)) e
theorem TpAt.stay {H H' : Hp} {a : Addr} {t : T3} (s : Stay H H') (h : TpAt H a t) : TpAt H' a t := let ⟨q, h1, h2⟩ := h; ⟨q, s _ _ (fun _ z => nomatch z) h1, s _ _ (fun _ z => nomatch z) h2⟩
theorem LPartsAt.stay {H H' : Hp} {r : Addr} {l : Ltr} (s : Stay H H') (h : LPartsAt H r l) : LPartsAt H' r l := by
  cases l with
  | fence e => exact s _ _ (fun _ z => nomatch z) h
  | sweep e key t => exact let ⟨b, h1, h2⟩ := h; ⟨b, s _ _ (fun _ z => nomatch z) h1, h2.stay s⟩
  | hear a m e key => exact s _ _ (fun _ z => nomatch z) h
  | keep a m e key t => exact let ⟨b, h1, h2⟩ := h; ⟨b, s _ _ (fun _ z => nomatch z) h1, h2.stay s⟩
theorem PenAt.stay {H H' : Hp} {p c : Addr} {cells : List Int} {n : Nat} (s : Stay H H') (h : PenAt H p c cells n) : PenAt H' p c cells n := by
  obtain ⟨a, g, h1, h2, h3, h4⟩ := h.ex
  exact ⟨⟨a, g, s _ _ (fun _ z => nomatch z) h1, h2, h3, h4⟩, s _ _ (fun _ z => nomatch z) h.cs, h.few, h.ne⟩
/-- a part, as it is drawn -/
def PvAt (H : Hp) (t : T3) (x : V) : Prop := (∃ i, x = .int i) ∨ ∃ a, x = .ref a ∧ TpAt H a t
/-- a part, as it is drawn and as it is given -/
def GvAt (K : PySem.W.Frag) (CK : Addr) (H : Hp) (t : T3) (x y : V) : Prop := (∃ i, x = .int i ∧ y = .int i) ∨ ∃ a b, x = .ref a ∧ y = .ref b ∧ KtAt K CK H b t
theorem GvAt.mono {K : PySem.W.Frag} {CK : Addr} {H H' : Hp} {t : T3} {x y : V} (s : Same H H') (h : GvAt K CK H t x y) : GvAt K CK H' t x y := h.elim .inl fun ⟨a, b, e1, e2, k⟩ => .inr ⟨a, b, e1, e2, k.mono s⟩
theorem GvAt.updL {K : PySem.W.Frag} {CK : Addr} {H : Hp} {t : T3} {x y : V} {d : Addr} {zs : List V} {o : HO} (hd : H d = some (.lst zs)) (h : GvAt K CK H t x y) : GvAt K CK (upd H d o) t x y := h.elim .inl fun ⟨a, b, e1, e2, k⟩ => .inr ⟨a, b, e1, e2, kt_updL hd k⟩
theorem PvAt.mono {H H' : Hp} {t : T3} {x : V} (s : Same H H') (h : PvAt H t x) : PvAt H' t x := h.elim .inl fun ⟨a, e1, k⟩ => .inr ⟨a, e1, k.mono s⟩
/-- the parts of a letter, one by one -/
def PartsV (H : Hp) : Ltr → List V → Prop
  | .fence e, xs => xs = [.int e]
  | .sweep e key t, xs => ∃ b, xs = [.int e, .int key, .ref b] ∧ TpAt H b t
  | .hear a m e key, xs => xs = [.int a, .int m, .int e, .int key]
  | .keep a m e key t, xs => ∃ b, xs = [.int a, .int m, .int e, .int key, .ref b] ∧ TpAt H b t
theorem LPartsAt.vs {H : Hp} {r : Addr} {l : Ltr} (h : LPartsAt H r l) : ∃ xs, H r = some (.tup xs) ∧ PartsV H l xs := by
  cases l with
  | fence e => exact ⟨_, h, rfl⟩
  | sweep e key t => exact let ⟨b, h1, h2⟩ := h; ⟨_, h1, b, rfl, h2⟩
  | hear a m e key => exact ⟨_, h, rfl⟩
  | keep a m e key t => exact let ⟨b, h1, h2⟩ := h; ⟨_, h1, b, rfl, h2⟩
theorem PartsV.all {H : Hp} {l : Ltr} {xs : List V} (h : PartsV H l xs) : ∀ x ∈ xs, PvAt H l.tp x := by
  cases l with
  | fence e =>
    cases h
    intro x m
    cases m with
    | head => exact .inl ⟨_, rfl⟩
    | tail _ m => cases m
  | sweep e key t =>
    obtain ⟨b, rfl, h2⟩ := h
    intro x m
    rcases List.mem_cons.mp m with rfl | m
    · exact .inl ⟨_, rfl⟩
    rcases List.mem_cons.mp m with rfl | m
    · exact .inl ⟨_, rfl⟩
    rcases List.mem_cons.mp m with rfl | m
    · exact .inr ⟨_, rfl, h2⟩
    cases m
  | hear a m e key =>
    cases h
    intro x m
    rcases List.mem_cons.mp m with rfl | m
    · exact .inl ⟨_, rfl⟩
    rcases List.mem_cons.mp m with rfl | m
    · exact .inl ⟨_, rfl⟩
    rcases List.mem_cons.mp m with rfl | m
    · exact .inl ⟨_, rfl⟩
    rcases List.mem_cons.mp m with rfl | m
    · exact .inl ⟨_, rfl⟩
    cases m
  | keep a m e key t =>
    obtain ⟨b, rfl, h2⟩ := h
    intro x m
    rcases List.mem_cons.mp m with rfl | m
    · exact .inl ⟨_, rfl⟩
    rcases List.mem_cons.mp m with rfl | m
    · exact .inl ⟨_, rfl⟩
    rcases List.mem_cons.mp m with rfl | m
    · exact .inl ⟨_, rfl⟩
    rcases List.mem_cons.mp m with rfl | m
    · exact .inl ⟨_, rfl⟩
    rcases List.mem_cons.mp m with rfl | m
    · exact .inr ⟨_, rfl, h2⟩
    cases m
theorem PartsV.len {H : Hp} {l : Ltr} {xs : List V} (h : PartsV H l xs) : xs.length ≤ 5 := by
  cases l with
  | fence e => cases h; exact Nat.le_of_ble_eq_true rfl
  | sweep e key t => obtain ⟨b, rfl, h2⟩ := h; exact Nat.le_of_ble_eq_true rfl
  | hear a m e key => cases h; exact Nat.le_of_ble_eq_true rfl
  | keep a m e key t => obtain ⟨b, rfl, h2⟩ := h; exact Nat.le_of_ble_eq_true rfl
theorem gv_int {K : PySem.W.Frag} {CK : Addr} {H : Hp} {t : T3} {i : Int} {y : V} (h : GvAt K CK H t (.int i) y) : y = .int i := by
  rcases h with ⟨j, e, rfl⟩ | ⟨a, b, e, _⟩
  · rw [e]
  · cases e
theorem gv_ref {K : PySem.W.Frag} {CK : Addr} {H : Hp} {t : T3} {a : Addr} {y : V} (h : GvAt K CK H t (.ref a) y) : ∃ b, y = .ref b ∧ KtAt K CK H b t := by
  rcases h with ⟨j, e, rfl⟩ | ⟨a, b, e, e2, k⟩
  · cases e
  · exact ⟨b, e2, k⟩
theorem PartsV.given {K : PySem.W.Frag} {CK : Addr} {H H' : Hp} {l : Ltr} {xs ys : List V} {r : Addr} (h : PartsV H l xs) (p : Paired (GvAt K CK H' l.tp) xs ys) (hr : SqT K H' r ys) : PartsAt K CK H' r l := by
  cases l with
  | fence e =>
    cases h
    cases p with | cons h1 p =>
    cases p
    cases gv_int h1
    exact hr
  | sweep e key t =>
    obtain ⟨b, rfl, h2⟩ := h
    cases p with | cons h1 p =>
    cases p with | cons h2 p =>
    cases p with | cons h3 p =>
    cases p
    cases gv_int h1
    cases gv_int h2
    obtain ⟨b', rfl, k⟩ := gv_ref h3
    exact ⟨b', hr, k⟩
  | hear a m e key =>
    cases h
    cases p with | cons h1 p =>
    cases p with | cons h2 p =>
    cases p with | cons h3 p =>
    cases p with | cons h4 p =>
    cases p
    cases gv_int h1
    cases gv_int h2
    cases gv_int h3
    cases gv_int h4
    exact hr
  | keep a m e key t =>
    obtain ⟨b, rfl, h2⟩ := h
    cases p with | cons h1 p =>
    cases p with | cons h2 p =>
    cases p with | cons h3 p =>
    cases p with | cons h4 p =>
    cases p with | cons h5 p =>
    cases p
    cases gv_int h1
    cases gv_int h2
    cases gv_int h3
    cases gv_int h4
    obtain ⟨b', rfl, k⟩ := gv_ref h5
    exact ⟨b', hr, k⟩
end K27
end

section
set_option Elab.async false
set_option linter.all false
set_option maxRecDepth 100000
set_option maxHeartbeats 4000000
/-! the law's store, before and after: equal where the two hosts are -/
namespace K27
open PySem PySem.Spec L2 KZ
def T3.dd (t : T3) : PyData := .tuple [t.d1, t.d2, t.d3]
theorem tp_dp {K : PySem.W.Frag} {H : Hp} {a : Addr} {t : T3} (h : TpAt H a t) : Dp K H (.ref a) t.dd := by
  obtain ⟨s, h1, h2⟩ := h
  refine .tup (SqT.of h1) (.cons (.tup (SqT.of h2) (.cons (.int _) (.cons (.str _) .nil))) (.cons ?_ (.cons ?_ .nil)))
  · cases t
    · exact .non
    · exact .int _
  · cases t
    · exact .non
    · exact .int _
theorem dd_can {t : T3} (h : t.Ok) : PyData.canLay0 t.dd = true := by
  have c : PyData.canLay0 (.str t.st.2) = true := by
    cases t with
    | no => decide +kernel
    | so n x p v => exact nm_ok x h.2.2.1
  have e : PyData.canLay0 t.dd = ((PyData.canLay0 (.int t.st.1) && (PyData.canLay0 (.str t.st.2) && true)) && (PyData.canLay0 t.d2 && (PyData.canLay0 t.d3 && true))) := rfl
  rw [e, c]
  cases t <;> rfl
theorem dd_sh {t : T3} (h : t.Ok) : SeqAt.shaped t.dd = true := by
  have e : SeqAt.shaped t.dd = (PyData.canLay0 t.dd && decide (t.dd.depth ≤ 64)) := rfl
  rw [e, dd_can h]
  cases t <;> exact decide_eq_true (by show max (max 0 (max 0 0) + 1) (max 0 (max 0 0)) + 1 ≤ 64; decide)
theorem dd_eqv {s t : T3} (hs : s.Ok) (ht : t.Ok) : PyData.eqv s.dd t.dd = decide (s = t) := by
  rw [← eqT_dec hs ht]
  show (PyData.eqv s.d1 t.d1 && (PyData.eqv s.d2 t.d2 && (PyData.eqv s.d3 t.d3 && true))) = _
  rw [Bool.and_true]
  rfl
theorem tp_cm {K : PySem.W.Frag} {H : Hp} {a b : Addr} {s t : T3} (h1 : TpAt H a s) (h2 : TpAt H b t) (hs : s.Ok) (ht : t.Ok) : Cm K H 64 (.ref a) (.ref b) (decide (s = t)) := by
  rw [← dd_eqv hs ht]
  exact .dat (Nat.le_refl _) (tp_dp h1) (tp_dp h2) (dd_sh hs) (dd_sh ht)
theorem pvs_eqF {H : Hp} {f g : Int → T3} {ka kb : List (Key × V)} {ks ls : List Int} (h1 : PvsAt H f ka ks) (h2 : PvsAt H g kb ls) :
    (ka.length == kb.length && allIn kb (eK f g) ka) = eqF f g ks ls := by
  unfold eqF
  rw [show ka.length = ks.length from Paired.length h1, show kb.length = ls.length from Paired.length h2]
  congr 1
  unfold allIn
  have h2' := h2
  clear h2
  unfold PvsAt at h1
  induction h1 with
  | nil => rfl
  | @cons p k ps js hh _ ih =>
    obtain ⟨e, b, e2, kt⟩ := hh
    rw [List.all_cons, List.all_cons, ih, e]
    congr 1
    rcases pvs_val h2' k with ⟨m, b', v, _⟩ | ⟨m, v⟩
    · rw [v, decide_eq_true m]
      rfl
    · rw [v, decide_eq_false m]
      rfl
theorem pvs_cm {K : PySem.W.Frag} {H : Hp} {f g : Int → T3} {ka kb : List (Key × V)} {ks ls : List Int} (h1 : PvsAt H f ka ks) (h2 : PvsAt H g kb ls) (o1 : ∀ k, (f k).Ok) (o2 : ∀ k, (g k).Ok) :
    ∀ p ∈ ka, ∀ u, valV kb p.1 = some u → Cm K H 64 p.2 u ((eK f g) p.1) := by
  intro p hp u hu
  obtain ⟨i, hi, e⟩ := List.getElem_of_mem hp
  obtain ⟨k, _, ek, b, eb, kt⟩ := paired_get h1 (show ka[i]? = some p from by rw [List.getElem?_eq_getElem hi, e])
  rw [ek] at hu ⊢
  rcases pvs_val h2 k with ⟨_, b', v, kt'⟩ | ⟨_, v⟩
  · rw [v] at hu
    cases hu
    rw [eb]
    exact tp_cm kt kt' (o1 k) (o2 k)
  · rw [v] at hu
    cases hu
def eP (b c : Bool) : Key → Bool
  | .inr x => if x = "closed" then b else c
  | .inl _ => false
theorem plain_eq {K : PySem.W.Frag} {H : Hp} {bl bk pl dk : Addr} {c c' : Int} {f g : Int → T3} {ka kb : List (Key × V)} {ks ls : List Int} {Q : VK} (h1 : PlainAt H bl bk c f ka ks) (h2 : PlainAt H pl dk c' g kb ls) (ne : bk ≠ dk) (q : Q (.bl (decide (c = c') && eqF f g ks ls)) H) : rEqDic K (.ref bl) (.ref pl) H Q := by
  refine ⟨bl, pl, _, _, eP (PyData.eqv (.int c) (.int c')) (ka.length == kb.length && allIn kb (eK f g) ka), 65, rfl, rfl, h1.a, h2.a, by omega, ?_, ?_⟩
  · intro p hp u hu
    rcases List.mem_cons.mp hp with rfl | hp
    · cases (show some (V.int c') = some u from hu)
      exact .dat (by omega) (.int c) (.int c') rfl rfl
    rcases List.mem_cons.mp hp with rfl | hp
    · cases (show some (V.ref dk) = some u from hu)
      exact .dic ne h1.d h2.d (pvs_cm h1.kv h2.kv h1.ok h2.ok)
    cases hp
  · rw [pvs_eqF h1.kv h2.kv]
    have e : ∀ x y : Bool, (([(Sum.inr "closed", V.int c), (Sum.inr "kept", V.ref bk)] : List (Key × V)).length == ([(Sum.inr "closed", V.int c'), (Sum.inr "kept", V.ref dk)] : List (Key × V)).length && allIn [(Sum.inr "closed", V.int c'), (Sum.inr "kept", V.ref dk)] (eP x y) [(Sum.inr "closed", V.int c), (Sum.inr "kept", V.ref bk)]) = (x && y) := by
      intro x y
      cases x <;> cases y <;> rfl
    rw [e]
    exact q
/-- two stores are equal where they hold the same -/
theorem eqF_iff {f g : Int → T3} {ks ls : List Int} (i1 : ∀ k, k ∈ ks ↔ f k ≠ .no) (i2 : ∀ k, k ∈ ls ↔ g k ≠ .no) (n1 : ks.Nodup) (n2 : ls.Nodup) : eqF f g ks ls = true ↔ ∀ k, f k = g k := by
  unfold eqF
  rw [Bool.and_eq_true, List.all_eq_true, beq_iff_eq]
  constructor
  · rintro ⟨hl, ha⟩ k
    have sub : ∀ j ∈ ks, j ∈ ls := fun j m => by
      have := ha j m
      rw [Bool.and_eq_true] at this
      exact of_decide_eq_true this.1
    by_cases m : k ∈ ks
    · have := ha k m
      rw [Bool.and_eq_true] at this
      exact of_decide_eq_true this.2
    · have e1 : f k = .no := by
        by_cases z : f k = .no
        · exact z
        · exact absurd ((i1 k).mpr z) m
      have m2 : k ∉ ls := fun z => by
        have := len_sub (k :: ks) ls (List.nodup_cons.mpr ⟨m, n1⟩) fun j mj => (List.mem_cons.mp mj).elim (fun y => y ▸ z) (sub j)
        rw [List.length_cons] at this
        omega
      have e2 : g k = .no := by
        by_cases z : g k = .no
        · exact z
        · exact absurd ((i2 k).mpr z) m2
      rw [e1, e2]
  · intro h
    have pm : ks.Perm ls := (List.perm_ext_iff_of_nodup n1 n2).mpr fun k => by rw [i1, i2, h]
    refine ⟨pm.length_eq, fun k m => ?_⟩
    rw [decide_eq_true (pm.mem_iff.mp m), decide_eq_true (h k)]
    rfl
theorem eq_two {c c' : Int} {f g : Int → T3} {ks ks' ka kb : List Int} (i1 : ∀ k, k ∈ ks ↔ f k ≠ .no) (i2 : ∀ k, k ∈ ks' ↔ g k ≠ .no) (n1 : ks.Nodup) (n2 : ks'.Nodup) (j1 : ∀ k, k ∈ ka ↔ f k ≠ .no) (j2 : ∀ k, k ∈ kb ↔ g k ≠ .no) (m1 : ka.Nodup) (m2 : kb.Nodup) :
    (decide (c' = c) && eqF g f ks' ks) = (decide (c = c') && eqF f g ka kb) := by
  rw [Bool.eq_iff_iff, Bool.and_eq_true, Bool.and_eq_true, eqF_iff i2 i1 n2 n1, eqF_iff j1 j2 m1 m2, decide_eq_true_eq, decide_eq_true_eq]
  exact ⟨fun ⟨a, b⟩ => ⟨a.symm, fun k => (b k).symm⟩, fun ⟨a, b⟩ => ⟨a.symm, fun k => (b k).symm⟩⟩
end K27
end

section
set_option Elab.async false
set_option linter.all false
set_option maxRecDepth 100000
set_option maxHeartbeats 4000000
/-! the law itself -/
namespace K27
open PySem PySem.Spec L2 KZ
abbrev sLaw : Stmt := top 39
structure CalG (P : Program) (w : World) (K : PySem.W.Frag) (mg : Str → Option Value) (base : Heap) (x : Str) (n : Nat) (ps : List Str) (sp : Sp) : Prop where
  ex : ∃ f fd, mg x = some (.ref f) ∧ FnG P w K mg base CX0 n f fd ps sp ∧ PySem.W.keepIn K (.ref f) = true ∧ Binds K fd ps []
/-- a part of the law: True, whatever it draws -/
def spYes : Sp := fun vs H Q _ => ∃ (p c : Addr) (cells : List Int) (n : Nat), vs = [.ref p] ∧ PenAt H p c cells n ∧ n ≤ 7000 ∧ ∀ H', PenAt H' p c cells (n + 900) → Kept p H H' → Q (.bl true) H'
def spLaw (K : PySem.W.Frag) : Sp := fun vs H Q _ => ∃ (a : Addr) (ns : List Int), vs = [.ref a] ∧ SqL K H a (ns.map V.int) ∧ ns.length ≤ 63 ∧ ∀ H', Q (.bl true) H'
structure CalsL (P : Program) (w : World) (K : PySem.W.Frag) (mg : Str → Option Value) (base : Heap) : Prop where
  well : Cal P w K mg base "_law_well" 1 ["script"] (spPen K)
  st : CalG P w K mg base "_law_stamps_right" 13 ["well"] spYes
  pp : Cal P w K mg base "_law_papers_right" 13 ["well"] spYes
  rr : CalG P w K mg base "_law_refused_right" 13 ["well"] spYes
  ar : Cal P w K mg base "_law_askings_right" 13 ["well"] spYes
  hr : Cal P w K mg base "_law_host_right" 13 ["well"] spYes
section
variable {P : Program} {w : World} {K : PySem.W.Frag} {mg : Str → Option Value} {base : Heap}
theorem scLaw : FnScope ["script", "well"] ["script"] (defScope sLaw) := ⟨rfl, rfl, rfl, by decide +kernel, rfl, by decide +kernel, by decide +kernel⟩
theorem ok_law {f : Addr} {fd : FuncData} (F : Fun K "law" "law" sLaw f fd) (T : B1 mg) (CL : CalsL P w K mg base) : FnG P w K mg base CX0 14 f fd ["script"] (spLaw K) := by
  obtain ⟨fW, dW, gW, GW, kW, bW⟩ := CL.well.ex
  obtain ⟨fS, dS, gS, GS, kS, bS⟩ := CL.st.ex
  obtain ⟨fP, dP, gPp, GPp, kPp, bPp⟩ := CL.pp.ex
  obtain ⟨fR, dR, gR, GR, kR, bR⟩ := CL.rr.ex
  obtain ⟨fA, dA, gA, GA, kA, bA⟩ := CL.ar.ex
  obtain ⟨fH, dH, gH, GH, kH, bH⟩ := CL.hr.ex
  refine okG F scLaw (fun vs H Q E h => ?_) (fun cdv A' outer s0 H vs Q E hgd hr h => ?_)
  · obtain ⟨a, ns, rfl, _⟩ := h
    rfl
  · obtain ⟨a, ns, rfl, hs, hl, q⟩ := h
    have hr13 : Room 13 _ := hr
    have hr1 : Room 1 _ := hr.mono (by decide)
    refine ⟨_, (pss_cons (ps_set (i := 1) scLaw.nd rfl (Or.inl rfl) (pe_call GW hr1 (by rfl) gW kW bW .nil pass0 (pa_cons (pv 0) pa_nil)))
(pss_cons (ps_if (PW.pt (pw_or (pt_not (pt_val (pe_callG GS hgd hr13 (by rfl) gS kS bS .nil pass0 (pa_cons (pv 1) pa_nil)))) (pw_or (pt_not (pt_val (pe_call GPp hr13 (by rfl) gPp kPp bPp .nil pass0 (pa_cons (pv 1) pa_nil)))) (pw_or (pt_not (pt_val (pe_callG GR hgd hr13 (by rfl) gR kR bR .nil pass0 (pa_cons (pv 1) pa_nil)))) (pw_or1 (pt_not (pt_val (pe_call GA hr13 (by rfl) gA kA bA .nil pass0 (pa_cons (pv 1) pa_nil)))))))))
(pss_one (ps_ret pe_bl))
pss_nil)
(pss_one (ps_ret (pe_and (pe_call GH hr13 (by rfl) gH kH bH .nil pass0 (pa_cons (pv 1) pa_nil)) (pe_one (pe_call GH hr13 (by rfl) gH kH bH .nil pass0 (pa_cons (pv 1) pa_nil)))))))), ?_⟩
    refine ⟨.ref a, rfl, a, ns, rfl, hs, hl, fun p c cells H1 _ _ _ pen => ?_⟩
    dsimp only [gName]
    refine ⟨_, rfl, p, c, cells, _, rfl, pen, by omega, fun H2 pen2 _ => ⟨true, rfl, iteF' ?_⟩⟩
    refine ⟨_, rfl, p, c, cells, _, rfl, pen2, by omega, fun H3 pen3 _ => ⟨true, rfl, iteF' ?_⟩⟩
    refine ⟨_, rfl, p, c, cells, _, rfl, pen3, by omega, fun H4 pen4 _ => ⟨true, rfl, iteF' ?_⟩⟩
    refine ⟨_, rfl, p, c, cells, _, rfl, pen4, by omega, fun H5 pen5 _ => ⟨true, rfl, iteF ?_⟩⟩
    refine ⟨_, rfl, p, c, cells, _, rfl, pen5, by omega, fun H6 pen6 _ => ⟨_, rfl, iteT' ?_⟩⟩
    exact ⟨_, rfl, p, c, cells, _, rfl, pen6, by omega, fun H7 _ _ => q H7⟩
end
end K27
end

section
set_option Elab.async false
set_option linter.all false
set_option maxRecDepth 100000
set_option maxHeartbeats 4000000
/-! a host, asked by letters, beside the law's own store -/
namespace K27
open PySem PySem.Spec L2 KZ
abbrev sHR : Stmt := top 35
/-- how a host is made, compared, asked (its cares default to the empty tuple at t0) -/
structure HoA (P : Program) (w : World) (K : PySem.W.Frag) (mg : Str → Option Value) (base : Heap) (CK CH cB : Addr) (t0 : Addr) : Prop where
  ini : ∃ f fd, Mk K CH f ∧ FnOk P w K mg base (L2.CX P w) 7 f fd ["self", "place"] (spHI K CH cB) ∧ Binds K fd ["self", "place"] []
  eq : ∃ f fd, FnOk P w K mg base CX0 3 f fd ["self", "other"] (spHE K CK CH) ∧ OwnEqF K CH f fd ["self", "other"]
  an : ∃ f fd, Meth K CH "answered" f ∧ FnOk P w K mg base CX0 11 f fd ["self", "word", "parts", "cares"] (spAn K CK CH) ∧ Binds K fd ["self", "word", "parts", "cares"] [] ∧ Binds K fd ["self", "word", "parts", "cares"] [.ref t0]
  em : ∀ H : Hp, SqT K H t0 []
  nf : PySem.W.notFirst K CH (.ref CH) = true ∧ PySem.W.notFirst K CH (.type "dict") = true
/-- before each turn -/
structure Tn (K : PySem.W.Frag) (CK CH : Addr) (H H' : Hp) (p c pl kl cr : Addr) (cells : List Int) (cs : List Str) (place : Int) (m : Nat) (hh : Addr) : Prop where
  pen : PenAt H' p c cells m
  kp : Kept p H H'
  st : ∃ dh dk cl f kvs ks kv2 ks2, H dk = none ∧ dh ≠ dk ∧ HostG K CK CH H' hh dh place cl f kvs ks ∧ PlainAt H' pl dk cl f kv2 ks2
  npl : H pl = none
  hkl : H' kl = some (.lst (keyU.map V.int))
  nkl : kl ≠ p
  hcr : CareAt H' cr cs
  ncr : cr ≠ p
theorem none_kept {p c : Addr} {cells : List Int} {m : Nat} {H H' : Hp} {a : Addr} (k : Kept p H H') (pen : PenAt H' p c cells m) (h : H' a = none) : H a = none := by
  cases e : H a with
  | none => rfl
  | some o =>
    have z := k a o (pen.nn h).1 e
    rw [h] at z
    cases z
section
variable {P : Program} {w : World} {K : PySem.W.Frag} {mg : Str → Option Value} {base : Heap} {CK CH cB fIt t0 : Addr}
theorem scHR : FnScope ["well", "place", "cares", "keys", "plain", "host", "turn", "word", "parts", "before", "due", "given", "later", "told", "part"] ["well"] (defScope sHR) := ⟨rfl, rfl, rfl, by decide +kernel, rfl, by decide +kernel, by decide +kernel⟩
theorem ok_hr {f : Addr} {fd : FuncData} (F : Fun K "_law_host_right" "_law_host_right" sHR f fd) (T : B1 mg) (HF : HoF P w K mg base CK CH cB fIt) (HA : HoA P w K mg base CK CH cB t0) (made : Cal P w K mg base "_law_made" 5 ["told"] (spLM K CK)) (draw : Cal P w K mg base "_law_draw" 1 ["well", "many"] spDraw) (one : Cal P w K mg base "_law_one" 2 ["well", "some"] spOne)
    (letter : Cal P w K mg base "_law_letter" 4 ["well", "keys"] spLT) (answer : Cal P w K mg base "_law_answer" 6 ["plain", "word", "parts", "cares"] (spLA K CK)) (stands : Cal P w K mg base "_law_stands" 8 ["host", "place", "plain", "keys"] (spST K CK CH)) : FnOk P w K mg base CX0 13 f fd ["well"] spYes := by
  obtain ⟨fM, dM, gM, GM, kM, bM⟩ := made.ex
  obtain ⟨fD, dD, gD, GD, kD, bD⟩ := draw.ex
  obtain ⟨fO, dO, gO, GO, kO, bO⟩ := one.ex
  obtain ⟨fLt, dLt, gLt, GLt, kLt, bLt⟩ := letter.ex
  obtain ⟨fAn, dAn, gAn, GAn, kAn, bAn⟩ := answer.ex
  obtain ⟨fSt, dSt, gSt, GSt, kSt, bSt⟩ := stands.ex
  obtain ⟨fHI, dHI, MKH, GHI_, bHI⟩ := HA.ini
  have GHI := KZ.FnOk.x0 GHI_
  obtain ⟨fHE, dHE, GHE, OHE⟩ := HA.eq
  obtain ⟨fHA, dHA, MHA, GHA, bHA, bHA2⟩ := HA.an
  obtain ⟨fKe, dKe, FKe, OKe, nfK⟩ := HF.ke
  have AH := HF.AH
  refine F.ok scHR (fun vs H Q E h => ?_) (fun cdv A' outer s H vs Q E hr h => ?_)
  · obtain ⟨p, c, cells, n, rfl, _⟩ := h
    rfl
  · obtain ⟨p, c, cells, n, rfl, pen, hn, q⟩ := h
    have hr11 : Room 11 _ := hr.mono (by decide)
    have hr8 : Room 8 _ := hr.mono (by decide)
    have hr7 : Room 7 _ := hr.mono (by decide)
    have hr6 : Room 6 _ := hr.mono (by decide)
    have hr5 : Room 5 _ := hr.mono (by decide)
    have hr4 : Room 4 _ := hr.mono (by decide)
    have hr3 : Room 3 _ := hr.mono (by decide)
    have hr2 : Room 2 _ := hr.mono (by decide)
    have hr1 : Room 1 _ := hr.mono (by decide)
    have hr0 : Room 0 _ := hr.mono (by decide)
    have vD : Vals [V.ref t0] [Value.ref t0] := .cons rfl .nil
    refine ⟨_, (pss_cons (ps_par (i := 1) (j := 2) (by rfl) scHR.nd rfl rfl (by decide) rfl rfl (pa_cons (pe_call GO hr2 (by rfl) gO kO bO .nil pass0 (pa_cons (pv 0) (pa_cons (pe_lst (pa_cons pe_int (pa_cons pe_int (pa_cons pe_int (pa_cons pe_int pa_nil))))) pa_nil))) (pa_cons (pe_call GO hr2 (by rfl) gO kO bO .nil pass0 (pa_cons (pv 0) (pa_cons (pe_lst (pa_cons (pe_tup pa_nil) (pa_cons (pe_tup pa_nil) (pa_cons (pe_tup (pa_cons pe_str pa_nil)) (pa_cons (pe_tup (pa_cons pe_str pa_nil)) (pa_cons (pe_tup (pa_cons pe_str (pa_cons pe_str pa_nil))) (pa_cons (pe_lst (pa_cons pe_str pa_nil)) pa_nil))))))) pa_nil))) pa_nil)) (by rfl))
(pss_cons (ps_par (i := 3) (j := 4) (by rfl) scHR.nd rfl rfl (by decide) rfl rfl (pa_cons (pe_lst (pa_cons pe_int (pa_cons pe_int (pa_cons pe_int (pa_cons pe_int pa_nil))))) (pa_cons (pe_disp (pps_cons pe_str (pe_un un_neg pe_int) (pps_cons pe_str pe_dnewK pps_nil)) (by rfl) (by rfl) (fun z => by cases z) (by decide)) pa_nil)) (by rfl))
(pss_cons (ps_set (i := 5) scHR.nd rfl (Or.inl rfl) (pe_make MKH GHI hr8 (by rfl) AH.g bHI .nil pass0 (pa_cons (pv 1) pa_nil)))
(pss_cons (ps_for PassesOwn.never rfl (pi_range1 (by rfl) T.range (pa_cons (pe_op op_add pe_int (pe_call GD hr1 (by rfl) gD kD bD .nil pass0 (pa_cons (pv 0) (pa_cons pe_int pa_nil)))) pa_nil)) (pg_name (i := 6) scHR.nd rfl (Or.inl rfl))
(pss_cons (ps_asg (pe_call GLt hr4 (by rfl) gLt kLt bLt .nil pass0 (pa_cons (pv 0) (pa_cons (pv 3) pa_nil))) (pg_tupK (n := 2) K rfl ((pgs_cons (pg_name (i := 7) scHR.nd rfl (Or.inl rfl)) (pgs_cons (pg_name (i := 8) scHR.nd rfl (Or.inl rfl)) pgs_nil)))))
(pss_cons (ps_set (i := 9) scHR.nd rfl (Or.inl rfl) (pe_disp (pps_cons pe_str (pe_dget (hu_of hr) (pv 4) pe_str (fun _ _ => rfl)) (pps_cons pe_str (pe_callTy call_dictD (by rfl) T.dict (by decide +kernel) (pa_cons (pe_dget (hu_of hr) (pv 4) pe_str (fun _ _ => rfl)) pa_nil)) pps_nil)) (by rfl) (by rfl) (fun z => by cases z) (by decide)))
(pss_cons (ps_set (i := 10) scHR.nd rfl (Or.inl rfl) (pe_call GAn hr6 (by rfl) gAn kAn bAn .nil pass0 (pa_cons (pv 4) (pa_cons (pv 7) (pa_cons (pv 8) (pa_cons (pv 2) pa_nil))))))
(pss_cons (ps_set (i := 11) scHR.nd rfl (Or.inl rfl) (pe_callTy call_tuple_of (by rfl) T.tuple (by decide +kernel) (pa_cons (pe_lc (own := [("part", 14)]) (g := gName 14) (tt := tYes) (by rfl) scHR.nd (pi_sq (pv 8)) (blkOk_by (own := [("part", 14)]) (N := ["well", "place", "cares", "keys", "plain", "host", "turn", "word", "parts", "before", "due", "given", "later", "told", "part"]) (sc := defScope sHR) (by decide +kernel)) (fun _ _ _ _ _ => pg_name (i := 14) scHR.nd rfl (Or.inl rfl)) (fun _ _ _ _ _ => pts_nil) (fun _ _ _ _ _ => pe_ifExp (pt_val (pe_callB (call_isiQ K) (by rfl) T.isi (by decide +kernel) (pa_cons (pv 14) (pa_cons (pe_bltn (v := .ty "tuple") (by rfl) T.tuple (by decide +kernel) rfl) pa_nil)))) (pe_call GM hr5 (by rfl) gM kM bM .nil pass0 (pa_cons (pv 14) pa_nil)) (pv 14))) pa_nil)))
(pss_cons (ps_asg (pe_ifExp (pt_cmpR (op_neA hr0) (pv 2) (pe_tup pa_nil) (nomark _)) (pe_meth (pv 5) AH.cl MHA GHA hr11 bHA .nil pass0 (pa_cons (pv 7) (pa_cons (pv 11) (pa_cons (pv 2) pa_nil)))) (pe_meth (pv 5) AH.cl MHA GHA hr11 bHA2 vD pass0 (pa_cons (pv 7) (pa_cons (pv 11) pa_nil)))) (pg_tupK (n := 2) K rfl ((pgs_cons (pg_name (i := 12) scHR.nd rfl (Or.inl rfl)) (pgs_cons (pg_name (i := 13) scHR.nd rfl (Or.inl rfl)) pgs_nil)))))
(pss_cons (ps_if (PW.pt (pw_or (pt_cmpR (op_neTupG mon3 (eqG3 (eqG_kt FKe OKe)) hr5) (pv 13) (pv 10) (nomark _)) (pw_or (pt_not (pt_val (pe_callB (call_isiQ K) (by rfl) T.isi (by decide +kernel) (pa_cons (pv 13) (pa_cons (pe_bltn (v := .ty "tuple") (by rfl) T.tuple (by decide +kernel) rfl) pa_nil))))) (pw_or1 (pt_not (pt_val (pe_call GSt hr8 (by rfl) gSt kSt bSt .nil pass0 (pa_cons (pv 12) (pa_cons (pv 1) (pa_cons (pv 4) (pa_cons (pv 3) pa_nil)))))))))))
(pss_one (ps_ret pe_bl))
pss_nil)
(pss_cons (ps_if (PW.pt (pw_or (pt_not (pt_val (pe_call GSt hr8 (by rfl) gSt kSt bSt .nil pass0 (pa_cons (pv 5) (pa_cons (pv 1) (pa_cons (pv 9) (pa_cons (pv 3) pa_nil))))))) (pw_or1 (pt_cmpR op_ne (pe_cmpR (op_eqO GHE OHE pass0 hr3) (pv 12) (pv 5) (nomark _)) (pe_cmpR (op_eqDic hr0) (pv 9) (pv 4) (nomark _)) (nomark _)))))
(pss_one (ps_ret pe_bl))
pss_nil)
(pss_one (ps_set (i := 5) scHR.nd rfl (Or.inl rfl) (pv 12)))))))))))
(pss_one (ps_ret (pe_and (pe_cmpR (op_neO GHE OHE pass0 hr4) (pv 5) (pe_make MKH GHI hr8 (by rfl) AH.g bHI .nil pass0 (pa_cons (pe_op op_mod (pe_callTy call_int1 (by rfl) T.int (by decide +kernel) (pa_cons (pe_op op_add (pv 1) pe_int) pa_nil)) (pe_op op_pow pe_int pe_int)) pa_nil)) (nomark _)) (pe_one (pe_cmpR (op_neO GHE OHE pass0 hr4) (pv 5) (pv 4) (nomark _)))))))))), ?_⟩
    refine ⟨.ref p, rfl, by show 4 ≤ sizeLine; decide, fun L1 hL1 => ?_⟩
    have s1 := same_new (o := .lst [.int 0, .int 999999999, .int 17, .int 5]) hL1
    refine ⟨p, c, L1, cells, n, _, rfl, pen.mono s1 (Nat.le_refl _), by omega, upd_same, (pen.nn hL1).1, by decide, by decide, fun i x H2 hx pen2 kp2 => ?_⟩
    obtain ⟨place, rfl, hpl_⟩ : ∃ place, x = .int place ∧ inPl place := by
      match i, hx with
      | 0, hx => exact ⟨0, (Option.some.inj hx).symm, by decide, by decide⟩
      | 1, hx => exact ⟨999999999, (Option.some.inj hx).symm, by decide, by decide⟩
      | 2, hx => exact ⟨17, (Option.some.inj hx).symm, by decide, by decide⟩
      | 3, hx => exact ⟨5, (Option.some.inj hx).symm, by decide, by decide⟩
    have kp2 := (Kept.of s1).trans kp2
    refine ⟨.ref p, rfl, by show 0 ≤ sizeLine; decide, fun a0 h0 => ⟨by show 0 ≤ sizeLine; decide, fun a1 h1 => ⟨by show 1 ≤ sizeLine; decide, fun a2 h2 => ⟨by show 1 ≤ sizeLine; decide, fun a3 h3 => ⟨by show 2 ≤ sizeLine; decide, fun a4 h4 => ⟨by show 1 ≤ sizeLine; decide, fun a5 h5 => ⟨by show 6 ≤ sizeLine; decide, fun L2' hL2 => ?_⟩⟩⟩⟩⟩⟩⟩
    have z0 : (upd H2 a0 (.tup [])) a0 = some (.tup []) := upd_same
    have w0 := same_new (o := .tup []) h0
    generalize upd H2 a0 (.tup []) = G0 at z0 w0 h1 h2 h3 h4 h5 hL2 ⊢
    have z1 : (upd G0 a1 (.tup [])) a1 = some (.tup []) := upd_same
    have w1 := same_new (o := .tup []) h1
    generalize upd G0 a1 (.tup []) = G1 at z1 w1 h2 h3 h4 h5 hL2 ⊢
    have z2 : (upd G1 a2 (.tup [.str "names"])) a2 = some (.tup [.str "names"]) := upd_same
    have w2 := same_new (o := .tup [.str "names"]) h2
    generalize upd G1 a2 (.tup [.str "names"]) = G2 at z2 w2 h3 h4 h5 hL2 ⊢
    have z3 : (upd G2 a3 (.tup [.str "older"])) a3 = some (.tup [.str "older"]) := upd_same
    have w3 := same_new (o := .tup [.str "older"]) h3
    generalize upd G2 a3 (.tup [.str "older"]) = G3 at z3 w3 h4 h5 hL2 ⊢
    have z4 : (upd G3 a4 (.tup [.str "names", .str "older"])) a4 = some (.tup [.str "names", .str "older"]) := upd_same
    have w4 := same_new (o := .tup [.str "names", .str "older"]) h4
    generalize upd G3 a4 (.tup [.str "names", .str "older"]) = G4 at z4 w4 h5 hL2 ⊢
    have z5 : (upd G4 a5 (.lst [.str "back"])) a5 = some (.lst [.str "back"]) := upd_same
    have w5 := same_new (o := .lst [.str "back"]) h5
    generalize upd G4 a5 (.lst [.str "back"]) = G5 at z5 w5 hL2 ⊢
    have z6 : (upd G5 L2' (.lst [.ref a0, .ref a1, .ref a2, .ref a3, .ref a4, .ref a5])) L2' = some (.lst [.ref a0, .ref a1, .ref a2, .ref a3, .ref a4, .ref a5]) := upd_same
    have w6 := same_new (o := .lst [.ref a0, .ref a1, .ref a2, .ref a3, .ref a4, .ref a5]) hL2
    have nL2 := (pen2.mono (w0.trans (w1.trans (w2.trans (w3.trans (w4.trans w5))))) (Nat.le_refl _)).nn hL2
    generalize upd G5 L2' (.lst [.ref a0, .ref a1, .ref a2, .ref a3, .ref a4, .ref a5]) = G6 at z6 w6  ⊢
    have wA := w0.trans (w1.trans (w2.trans (w3.trans (w4.trans (w5.trans w6)))))
    refine ⟨p, c, L2', cells, _, _, rfl, pen2.mono wA (Nat.le_refl _), by omega, z6, nL2.1, by show 0 < 6; decide, by show 6 ≤ 100; decide, fun j y H3 hy pen3 kp3 => ?_⟩
    obtain ⟨cr, cs, rfl, hcr, hcs⟩ : ∃ cr cs, y = .ref cr ∧ CareAt H3 cr cs ∧ cs ∈ csL := by
      have nn : ∀ {a o}, G6 a = some o → (∀ l : Int × Int, o ≠ .lst [.ref c, .int l.1, .int l.2]) → H3 a = some o := fun {a o} e ne => kp3 _ _ (fun z => by
        obtain ⟨x1, x2, hp, _⟩ := (pen2.mono wA (Nat.le_refl _)).ex
        rw [z, hp] at e
        exact ne (x1, x2) (Option.some.inj e).symm) e
      match j, hy with
      | 0, hy => exact ⟨a0, [], (Option.some.inj hy).symm, .inl (nn (w6 _ _ (w5 _ _ (w4 _ _ (w3 _ _ (w2 _ _ (w1 _ _ z0)))))) fun _ z => nomatch z), by decide +kernel⟩
      | 1, hy => exact ⟨a1, [], (Option.some.inj hy).symm, .inl (nn (w6 _ _ (w5 _ _ (w4 _ _ (w3 _ _ (w2 _ _ z1))))) fun _ z => nomatch z), by decide +kernel⟩
      | 2, hy => exact ⟨a2, ["names"], (Option.some.inj hy).symm, .inl (nn (w6 _ _ (w5 _ _ (w4 _ _ (w3 _ _ z2)))) fun _ z => nomatch z), by decide +kernel⟩
      | 3, hy => exact ⟨a3, ["older"], (Option.some.inj hy).symm, .inl (nn (w6 _ _ (w5 _ _ (w4 _ _ z3))) fun _ z => nomatch z), by decide +kernel⟩
      | 4, hy => exact ⟨a4, ["names", "older"], (Option.some.inj hy).symm, .inl (nn (w6 _ _ (w5 _ _ z4)) fun _ z => nomatch z), by decide +kernel⟩
      | 5, hy => exact ⟨a5, ["back"], (Option.some.inj hy).symm, .inr ⟨nn (w6 _ _ z5) (fun l z => by cases z), fun z => nomatch z⟩, by decide +kernel⟩
    have kp3 := kp2.trans ((Kept.of wA).trans kp3)
    clear z0 z1 z2 z3 z4 z5 z6 w0 w1 w2 w3 w4 w5 w6 wA
    refine ⟨_, _, rfl, ?_⟩
    refine ⟨by show 4 ≤ sizeLine; decide, fun kl hkl => ?_⟩
    have w1 := same_new (o := .lst (keyU.map V.int)) hkl
    have zkl : (upd H3 kl (.lst (keyU.map V.int))) kl = some (.lst (keyU.map V.int)) := upd_same
    have nkl := (pen3.nn hkl).1
    have ncr : cr ≠ p := fun z => by
      obtain ⟨x1, x2, hp, _⟩ := pen3.ex
      rcases hcr with y | ⟨y, _⟩
      · rw [z, hp] at y
        cases y
      · rw [z, hp] at y
        cases cs with
        | nil => cases y
        | cons s r => cases y
    have pen4 := pen3.mono w1 (Nat.le_refl _)
    have hcr4 := hcr.mono w1
    have kp4 := kp3.trans (Kept.of w1)
    show tCons (tDisp _) tNil _ (upd H3 kl (.lst (keyU.map V.int))) _
    generalize upd H3 kl (.lst (keyU.map V.int)) = H4 at zkl pen4 hcr4 kp4 ⊢
    intro pl hpl
    have npl : H pl = none := none_kept kp4 pen4 hpl
    refine ⟨1, rfl, fun dk hdk => ?_⟩
    have npd : pl ≠ dk := fun z => by rw [← z, upd_same] at hdk; cases hdk
    have ndk : H dk = none := none_kept kp4 pen4 (by rw [upd_ne npd.symm] at hdk; exact hdk)
    refine ⟨by rw [upd_ne npd, upd_same], [(Sum.inr "closed", .int (-1)), (Sum.inr "kept", .ref dk)], rfl, by show 2 ≤ 15; decide, ?_⟩
    generalize eH5 : upd (upd (upd H4 pl (.dK [])) dk (.dK [])) pl _ = H5
    have w2 : Same H4 H5 := fun b o z => by
      have n1 : b ≠ pl := ne_of_none z hpl
      have n2 : b ≠ dk := fun y => by
        rw [y] at z
        rw [upd_ne npd.symm, z] at hdk
        cases hdk
      rw [← eH5, upd_ne n1, upd_ne n2, upd_ne n1]
      exact z
    have pa0 : PlainAt H5 pl dk (-1) (fun _ => .no) [] [] := ⟨by rw [← eH5, upd_same]; rfl, by rw [← eH5, upd_ne npd.symm, upd_same], .nil, fun k => ⟨(fun z => nomatch z), fun z => absurd rfl z⟩, List.nodup_nil, (fun k z => nomatch z), fun _ => trivial⟩
    clear eH5
    refine ⟨_, _, rfl, ?_⟩
    have pen5 := pen4.mono w2 (Nat.le_refl _)
    have hcr5 := hcr4.mono w2
    have zkl5 := w2 _ _ zkl
    refine ⟨.int place, rfl, fun hh dx hx hdx ne => ?_⟩
    have s0 := new2 (o := .own hh) (u := .ins CH dx []) hx hdx ne
    refine ⟨hh, .int place, .int place, dx, rfl, .int place, trivial, upd_same, fun i ei hi dk2 H6 hdk2 bt g1 g2 => ?_, fun z => absurd (within_pl hpl_) (by rw [z]; exact Bool.false_ne_true)⟩
    cases ei
    refine ⟨rfl, ?_⟩
    have ndd : dk2 ≠ dk := fun z => by
      have e := pa0.d
      rw [← z, s0.free hdk2] at e
      cases e
    have w3 : Same H5 H6 := fun b o e => bt b o (ne_of_none e hx) (s0 b o e)
    have hg0 : HostG K CK CH H6 hh dk2 place (-1) (fun _ => .no) [] [] := ⟨⟨⟨dx, g1⟩, .inl g2, .nil, fun k => ⟨(fun z => nomatch z), fun z => absurd rfl z⟩⟩, g2, fun _ => trivial, hpl_, (fun j z => nomatch z), List.nodup_nil, .nil⟩
    have pa6 := pa0.mono w3
    have pen6 := pen5.mono w3 (Nat.le_refl _)
    have hcr6 := hcr5.mono w3
    have zkl6 := w3 _ _ zkl5
    have kp6 := kp4.trans ((Kept.of w2).trans (Kept.of w3))
    clear w2 w3 hx hdx ne s0 bt g1 g2 hdk2 hpl hdk npd
    dsimp only [gName]
    refine ⟨.ref p, rfl, p, c, cells, _, 21, rfl, pen6, by omega, by decide, by decide, fun tn H7 tl0 tl1 pen7 kp7 => ⟨10, tn, rfl, rfl, 10 + tn, rfl, by omega, by omega, ?_⟩⟩
    have T0 : Tn K CK CH H H7 p c pl kl cr cells cs place (n + 3) hh := {
      pen := pen7.more (by omega)
      kp := kp6.trans kp7
      st := ⟨dk2, dk, _, _, _, _, _, _, ndk, ndd, hg0.kept pen6 pen7 kp7, pa6.kept pen6 pen7 kp7⟩
      npl := npl
      hkl := kp7 _ _ nkl zkl6
      nkl := nkl
      hcr := hcr6.elim (fun z => .inl (kp7 _ _ ncr z)) fun z => .inr ⟨kp7 _ _ ncr z.1, z.2⟩
      ncr := ncr }
    clear hg0 pa6 pen6 hcr6 zkl6 kp6 kp7 pen7
    refine for_it (walk_range (lo := 0) (n := (10 + tn).toNat)) (fun i σ H' => ∃ hh x6 x7 x8 x9 x10 x11 x12 x13 x14, σ = [some (.ref p), some (.int place), some (.ref cr), some (.ref kl), some (.ref pl), some (.ref hh), x6, x7, x8, x9, x10, x11, x12, x13, x14] ∧ Tn K CK CH H H' p c pl kl cr cells cs place (n + 3 + 12 * i) hh) ⟨hh, _, _, _, _, _, _, _, _, _, rfl, T0⟩ (fun _ _ _ _ _ => True.intro) ?_ ?_
    · rintro i y _ H8 H9 hi ⟨hh, x6, x7, x8, x9, x10, x11, x12, x13, x14, rfl, TI⟩ ⟨rfl, rfl⟩
      have ilt : i ≤ 30 := by omega
      dsimp only [gName]
      refine ⟨.ref p, rfl, .ref kl, rfl, p, c, kl, cells, _, rfl, TI.pen, by omega, TI.hkl, TI.nkl, fun l a r H10 lok pen10 kp10 ha hr_ => ?_⟩
      refine ⟨a, _, rfl, SqT.of ha, rfl, ?_⟩
      obtain ⟨dh, dk, cl, f, kvs, ks, kv2, ks2, ndk, ndd, hg, pa⟩ := TI.st
      have hg := hg.kept TI.pen pen10 kp10
      have pa := pa.kept TI.pen pen10 kp10
      have hkl := kp10 _ _ TI.nkl TI.hkl
      have hcr : CareAt H10 cr cs := TI.hcr.elim (fun z => .inl (kp10 _ _ TI.ncr z)) fun z => .inr ⟨kp10 _ _ TI.ncr z.1, z.2⟩
      have kp := TI.kp.trans kp10
      dsimp only [gCons, gNil, gName]
      refine ⟨_, _, rfl, _, _, rfl, rfl, ?_⟩
      intro bl hbl
      refine ⟨.ref pl, rfl, pl, .int cl, rfl, .inl ⟨_, Sum.inr "closed", .inl ((same_new hbl) _ _ pa.a), rfl, rfl⟩, .ref pl, rfl, pl, .ref dk, rfl, .inl ⟨_, Sum.inr "kept", .inl ((same_new hbl) _ _ pa.a), rfl, rfl⟩, dk, kv2, rfl, .inl ((same_new hbl) _ _ pa.d), fun bk hbk => ?_⟩
      have nbk : bl ≠ bk := fun z => by rw [← z, upd_same] at hbk; cases hbk
      refine ⟨by rw [upd_ne nbk, upd_same], [(Sum.inr "closed", .int cl), (Sum.inr "kept", .ref bk)], rfl, by show 2 ≤ 15; decide, ?_⟩
      generalize eH11 : upd (upd (upd H10 bl (.dK [])) bk (.dK kv2)) bl _ = H11
      have nbk0 : H10 bk = none := by rw [upd_ne nbk.symm] at hbk; exact hbk
      have s11 : Same H10 H11 := fun b o z => by
        have n1 : b ≠ bl := ne_of_none z hbl
        have n2 : b ≠ bk := ne_of_none z nbk0
        rw [← eH11, upd_ne n1, upd_ne n2, upd_ne n1]
        exact z
      have pb : PlainAt H11 bl bk cl f kv2 ks2 := ⟨by rw [← eH11, upd_same]; rfl, by rw [← eH11, upd_ne nbk.symm, upd_same], pa.kv.mono s11, pa.iff, pa.nd, pa.sub, pa.ok⟩
      have n1 : bl ≠ dk := fun z => by
        have e := pa.d
        rw [← z, hbl] at e
        cases e
      have n2 : bl ≠ pl := fun z => by
        have e := pa.a
        rw [← z, hbl] at e
        cases e
      have n3 : bk ≠ dk := fun z => by
        have e := pa.d
        rw [← z, nbk0] at e
        cases e
      have n4 : bk ≠ pl := fun z => by
        have e := pa.a
        rw [← z, nbk0] at e
        cases e
      clear eH11 hbk
      have hg := hg.mono s11
      have hcr := hcr.mono s11
      have hkl := s11 _ _ hkl
      have kp := kp.trans (Kept.of s11)
      have pa := pa.mono s11
      have pen11 := pen10.mono s11 (Nat.le_refl _)
      have hr_ := hr_.mono s11
      clear s11 hbl nbk0 nbk
      dsimp only [gName]
      refine ⟨.ref pl, rfl, .str l.word, rfl, .ref r, rfl, .ref cr, rfl, pl, r, cr, dk, cl, f, kv2, ks2, l, cs, rfl, pa, lok, hr_, hcr.sq, fun w kvs' ks' ks0 H12 bt pa' pm pw an => ?_⟩
      have hg12 := HostG.changed pa bt pa' ndd hg
      have pb12 := PlainAt.changed pa bt pa' n1 n2 n3 n4 pb
      have hcr12 := CareAt.changed pa bt hcr
      have st := stay_of pa bt
      have pen12 := pen11.stay st
      have hkl12 : H12 kl = some (.lst (keyU.map V.int)) := st kl _ (fun _ z => by cases z) hkl
      obtain ⟨xs, hrx, pv⟩ := (hr_.stay st).vs
      have kp12 : Kept p H H12 := fun b o nb e => bt _ _ (fun z => by rw [z, ndk] at e; cases e) (fun z => by rw [z, TI.npl] at e; cases e) (kp b o nb e)
      have lx := pv.len
      clear st bt pa pb hg hcr pen11 kp hkl hr_
      dsimp only [gName]
      refine ⟨.ref r, rfl, r, xs, rfl, .inr (SqT.of hrx), fun J G wk hG D hD => ?_⟩
      refine lc_it wk (fun i H' => Same H12 H' ∧ ∃ ys, H' D = some (.lst ys) ∧ Paired (GvAt K CK H' l.tp) (xs.take i) ys) ⟨same_new hD, [], upd_same, .nil⟩ (fun i H' _ z => hG _ z.1) ?_ ?_
      · rintro j y _ H13 hj ⟨c1, ys, c2, c3⟩ ⟨rfl, hy⟩
        have pvy : PvAt H13 l.tp y := (pv.all y (List.mem_of_getElem? hy)).mono c1
        have nx : ∀ {H' : Hp} {x z : V}, xs[j]? = some x → Same H13 H' → GvAt K CK H' l.tp x z → ∃ acc, H' D = some (.lst acc) ∧ acc.length < sizeLine ∧ (Same H12 (upd H' D (.lst (acc ++ [z]))) ∧ ∃ ys, (upd H' D (.lst (acc ++ [z]))) D = some (.lst ys) ∧ Paired (GvAt K CK (upd H' D (.lst (acc ++ [z]))) l.tp) (xs.take (j + 1)) ys) := by
          intro H' x z hx s gv
          refine ⟨ys, s _ _ c2, ?_, ?_, ys ++ [z], upd_same, ?_⟩
          · rw [← Paired.length c3, List.length_take, sizeLine_eq]
            omega
          · exact fun b' o e => by
              rw [upd_ne (fun z2 => by rw [z2, hD] at e; cases e)]
              exact s _ _ (c1 _ _ e)
          · rw [List.take_add_one, hx]
            exact Paired.mapP (Paired.snoc (Paired.mapP c3 fun _ _ e => e.mono s) gv) fun _ _ e => e.updL (s _ _ c2)
        refine ⟨rfl, yes_go ?_⟩
        rcases pvy with ⟨i', rfl⟩ | ⟨b, rfl, tp⟩
        · refine ⟨.int i', rfl, ⟨.int i', .ty "tuple", .type "int", .type "tuple", false, rfl, .ty _, .base (.int _), rfl, ⟨_, rfl, iteF' ?_⟩⟩⟩
          exact ⟨.int i', rfl, nx hy (Same.refl _) (.inl ⟨_, rfl, rfl⟩)⟩
        · refine ⟨.ref b, rfl, ⟨.ref b, .ty "tuple", .type "tuple", .type "tuple", true, rfl, .ty _, .base (.tup tp.choose_spec.1), rfl, ⟨_, rfl, iteT' ?_⟩⟩⟩
          exact ⟨.ref b, rfl, b, l.tp, rfl, tp, fun b2 H' s kt => nx hy s (.inr ⟨b, b2, rfl, rfl, kt⟩)⟩
      rintro H13 ⟨c1, ys, c2, c3⟩
      rw [List.take_length] at c3
      refine ⟨D, ys, rfl, .inl ⟨SqL.of c2, fun gv hgv => ?_⟩⟩
      have s13 := c1.trans (same_new (o := .tup ys) hgv)
      have gvp : PartsAt K CK (upd H13 gv (.tup ys)) gv l := pv.given (Paired.mapP c3 fun _ _ z => z.mono (same_new hgv)) (SqT.of upd_same)
      generalize upd H13 gv (.tup ys) = H14 at s13 gvp ⊢
      clear c1 c2 c3 hgv hD hG wk
      have hg14 := hg12.mono s13
      have pa14 := pa'.mono s13
      have pb14 := pb12.mono s13
      have hcr14 := hcr12.mono s13
      have pen14 := pen12.mono s13 (Nat.le_refl _)
      have hkl14 := s13 _ _ hkl12
      have an14 := an.mono s13
      have kp14 := kp12.trans (Kept.of s13)
      clear s13 hg12 pa' pb12 hcr12 pen12 hkl12 an kp12 hrx
      dsimp only [gName]
      refine ⟨.ref cr, rfl, by show 0 ≤ sizeLine; decide, fun et het => ?_⟩
      have s14 := same_new (o := .tup []) het
      have hcr15 := hcr14.mono s14
      obtain ⟨rr, hne, hrr⟩ := CareAt.ne (K := K) hcr15 hcs upd_same
      have hg15 := hg14.mono s14
      have pa15 := pa14.mono s14
      have pb15 := pb14.mono s14
      have pen15 := pen14.mono s14 (Nat.le_refl _)
      have hkl15 := s14 _ _ hkl14
      have an15 := an14.mono s14
      have kp15 := kp14.trans (Kept.of s14)
      have gvp15 := PartsAt.mono s14 gvp
      obtain ⟨dxh, hah⟩ := hg15.l.at_
      have no : ∀ x ∈ hF, NoAttr K CH x := AH.no
      refine ⟨rr, hne, _, rfl, if_meth2 (fun Q => ∀ z a w d' kvs' ks' H', Same (upd H14 et (.tup [])) H' → H' z = some (.tup [.ref a, .ref w]) → HostG K CK CH H' a d' place (stepC cl l) (stepF cl f cs l) kvs' ks' → AnsAt K CK H' w (stepA cl f ks l) → (d' = dh ∨ (upd H14 et (.tup [])) d' = none) → Q (.ref z) H') (fun e Q q => ?_) (fun e Q q => ?_) ?_⟩
      · exact ⟨.ref hh, rfl, hh, dxh, _, rfl, hah, rfl, .str l.word, rfl, .ref gv, rfl, .ref cr, rfl, hh, gv, cr, dh, place, cl, f, kvs, ks, l, cs, rfl, hg15, lok, gvp15, hcr15.sq, q⟩
      · cases hrr (by simpa using e)
        exact ⟨.ref hh, rfl, hh, dxh, _, rfl, hah, rfl, .str l.word, rfl, .ref gv, rfl, hh, gv, t0, dh, place, cl, f, kvs, ks, l, [], rfl, hg15, lok, gvp15, .inr (HA.em _), q⟩
      intro z a w' d' kvs3 ks3 H16 s16 hz hg16 an16 hd
      refine ⟨z, _, rfl, SqT.of hz, rfl, ?_⟩
      dsimp only [gCons, gNil, gName]
      refine ⟨_, _, rfl, _, _, rfl, rfl, ?_⟩
      have ndd' : d' ≠ dk := by
        rcases hd with rfl | hd
        · exact ndd
        · intro z2
          rw [z2, pa15.d] at hd
          cases hd
      have eks : ks0 = ks := by
        refine List.Perm.eq_of_pairwise (le := (· ≤ ·)) (fun a b _ _ h1 h2 => Int.le_antisymm h1 h2) pw hg15.srt (pm.trans ?_)
        exact (List.perm_ext_iff_of_nodup pb15.nd hg15.nd).mpr fun k => by rw [pb15.iff k, hg15.l.iff k]
      rw [eks] at an15
      have hgo := hg15.mono s16
      have pa16 := pa15.mono s16
      have pb16 := pb15.mono s16
      have pen16 := pen15.mono s16 (Nat.le_refl _)
      have hkl16 := s16 _ _ hkl15
      have hcr16 := hcr15.mono s16
      have kp16 := kp15.trans (Kept.of s16)
      have ans := ans_eq an16 (an15.mono s16) (stepA_ok hg15.ok)
      obtain ⟨xs4, hxs4⟩ := an16.tup
      refine ⟨.ref w', rfl, .ref w, rfl, ans, fun H17 s17 => ⟨_, rfl, iteF' ?_⟩⟩
      have s17 : Same H16 H17 := s17
      refine ⟨.ref w', rfl, ⟨.ref w', .ty "tuple", .type "tuple", .type "tuple", true, rfl, .ty _, .base (.tup (s17 _ _ hxs4)), rfl, ⟨_, rfl, iteF' ?_⟩⟩⟩
      refine ⟨.ref a, rfl, .int place, rfl, .ref pl, rfl, .ref kl, rfl, a, place, pl, kl, d', dk, _, _, _, _, _, _, rfl, hg16.mono s17, pa16.mono s17, s17 _ _ hkl16, fun H18 s18 => ⟨_, rfl, iteF ?_⟩⟩
      have s18 := s17.trans s18
      refine ⟨.ref hh, rfl, .int place, rfl, .ref bl, rfl, .ref kl, rfl, hh, place, bl, kl, dh, bk, _, _, _, _, _, _, rfl, hgo.mono s18, pb16.mono s18, s18 _ _ hkl16, fun H19 s19 => ⟨_, rfl, iteF' ?_⟩⟩
      have s19 := s18.trans s19
      have hg19 := hg16.mono s19
      have hgo19 := hgo.mono s19
      obtain ⟨dxa, haa⟩ := hg19.l.at_
      obtain ⟨dxo, hao⟩ := hgo19.l.at_
      refine ⟨.ref a, rfl, .ref hh, rfl, a, dxa, _, .ref CH, rfl, haa, AH.ty _ _ _ _ hao, HA.nf.1, ?_⟩
      refine ⟨a, .ref hh, d', place, _, _, _, _, rfl, hg19.l, hg19.d, hg19.ok, .inl ⟨hh, dh, place, _, _, _, _, rfl, hgo19.l, hgo19.d, hgo19.ok, ?_⟩⟩
      refine ⟨_, rfl, .ref bl, rfl, .ref pl, rfl, plain_eq (pb16.mono s19) (pa16.mono s19) n3 ?_⟩
      have bb : ∀ z : Bool, (false != (true && z)) = z := by decide
      rw [decide_eq_true (rfl : place = place), bb, eq_two hgo19.l.iff hg19.l.iff hgo19.nd hg19.nd pb16.iff pa16.iff pb16.nd pa16.nd]
      refine ⟨rfl, _, rfl, ?_⟩
      rw [decide_eq_true rfl]
      refine iteF ⟨.ref a, rfl, a, _, _, _, _, _, _, _, _, _, rfl, ?_⟩
      exact {
        pen := pen16.mono s19 (by omega)
        kp := kp16.trans (Kept.of s19)
        st := ⟨d', dk, _, _, _, _, _, _, ndk, ndd', hg19, pa16.mono s19⟩
        npl := TI.npl
        hkl := s19 _ _ hkl16
        nkl := TI.nkl
        hcr := hcr16.mono s19
        ncr := TI.ncr }
    rintro _ H8 ⟨hh, x6, x7, x8, x9, x10, x11, x12, x13, x14, rfl, TI⟩
    obtain ⟨dh, dk, cl, f, kvs, ks, kv2, ks2, ndk, ndd, hg, pa⟩ := TI.st
    obtain ⟨dxh, hah⟩ := hg.l.at_
    refine ⟨.ref hh, rfl, .int place, rfl, place, 1, rfl, rfl, .inl ⟨_, rfl, 10, 9, rfl, rfl, (pow_b (x := 10) (b := 9) (by decide) (by decide)).mpr (by decide), _, _, rfl, rfl, (by show (0 : Int) < 10 ^ (9 : Int).toNat; decide), fun x dx hx hdx ne => ?_⟩⟩
    have p1 := hg.pl.1
    have p2 := hg.pl.2
    have e9 : (10 : Int) ^ (9 : Int).toNat = 1000000000 := by decide
    rw [e9]
    have m1 : inPl ((place + 1) % 1000000000) := ⟨by omega, by omega⟩
    have m2 : ¬ place = (place + 1) % 1000000000 := by omega
    have s0 := new2 (o := .own x) (u := .ins CH dx []) hx hdx ne
    refine ⟨x, .int _, .int _, dx, rfl, .int _, trivial, upd_same, fun i ei hi dk2 H6 hdk2 bt g1 g2 => ?_, fun z => absurd (within_pl m1) (by rw [z]; exact Bool.false_ne_true)⟩
    cases ei
    have s6 : Same H8 H6 := fun b o e => bt b o (ne_of_none e hx) (s0 b o e)
    have hg6 := hg.mono s6
    have pa6 := pa.mono s6
    refine ⟨rfl, hh, dxh, _, .ref CH, rfl, s6 _ _ hah, AH.ty _ _ _ _ g1, HA.nf.1, hh, .ref x, dh, place, cl, f, kvs, ks, rfl, hg6.l, hg6.d, hg6.ok, .inl ⟨x, dk2, _, -1, fun _ => .no, [], [], rfl, ⟨⟨dx, g1⟩, .inl g2, .nil, fun k => ⟨(fun z => nomatch z), fun z => absurd rfl z⟩⟩, g2, fun _ => trivial, _, rfl, _, rfl, ?_⟩⟩
    rw [decide_eq_false m2]
    refine iteT' ⟨.ref hh, rfl, .ref pl, rfl, hh, dxh, _, .type "dict", rfl, s6 _ _ hah, .dK pa6.a, HA.nf.2, hh, .ref pl, dh, place, cl, f, kvs, ks, rfl, hg6.l, hg6.d, hg6.ok, .inr ⟨.type "dict", .base (.dK pa6.a), AH.no7 "dict" (by decide), _, rfl, ?_⟩⟩
    exact q H6 (TI.pen.mono s6 (by omega)) (TI.kp.trans (Kept.of s6))
end
end K27
end

section
set_option Elab.async false
set_option linter.all false
set_option maxRecDepth 100000
set_option maxHeartbeats 4000000
/-! the first of the greatest -/
namespace K27
open PySem PySem.Spec L2 KZ
def rk (x : Str) : Nat := if x = "bob" then 3 else if x = "ann" then 2 else if x = "al" then 1 else 0
/-- stamps in their order -/
def kyN (nm : Bool) (t : T3) : Nat := if nm = true then 4 * t.st.1.toNat + rk t.st.2 else t.st.1.toNat
def nmE : List Str := ["", "ann", "bob", "al"]
theorem rk_lt : ∀ x ∈ nmE, ∀ y ∈ nmE, decide (y.cps.toList < x.cps.toList) = decide (rk y < rk x) := by decide +kernel
theorem rk_3 : ∀ x ∈ nmE, rk x < 4 := by decide +kernel
theorem st_ok {t : T3} (h : t.Ok) : 0 ≤ t.st.1 ∧ t.st.2 ∈ nmE := by
  cases t with
  | no => exact ⟨Int.le_refl _, List.mem_cons_self⟩
  | so n x p v => exact ⟨Int.natCast_nonneg _, List.mem_cons_of_mem _ h.2.2.1⟩
theorem gt_ky {nm : Bool} {s t : T3} (hs : s.Ok) (ht : t.Ok) : gtB nm s.st t.st = decide (kyN nm t < kyN nm s) := by
  obtain ⟨a1, a2⟩ := st_ok hs
  obtain ⟨b1, b2⟩ := st_ok ht
  have r1 := rk_3 _ a2
  have r2 := rk_3 _ b2
  unfold gtB kyN
  cases nm with
  | false =>
    rw [if_neg Bool.false_ne_true, if_neg Bool.false_ne_true, if_neg Bool.false_ne_true]
    exact decide_eq_decide.mpr (by omega)
  | true =>
    rw [if_pos rfl, if_pos rfl, if_pos rfl]
    unfold gtIS
    by_cases e : s.st.1 = t.st.1
    · rw [if_pos e, rk_lt _ a2 _ b2, e]
      exact decide_eq_decide.mpr (by omega)
    · rw [if_neg e]
      exact decide_eq_decide.mpr (by omega)
/-- none is greater than the one at g -/
def Top (nm : Bool) (ts : List T3) (g : Nat) : Prop := ∀ j, j < ts.length → gtB nm (ts.getD j .no).st (ts.getD g .no).st = false
theorem gMax_top {nm : Bool} {ts : List T3} (ok : ∀ i, (ts.getD i .no).Ok) : ∀ i, 0 < i → gMax nm ts i < i ∧ (∀ j, j < i → kyN nm (ts.getD j .no) ≤ kyN nm (ts.getD (gMax nm ts i) .no)) ∧ ∀ j, j < gMax nm ts i → kyN nm (ts.getD j .no) < kyN nm (ts.getD (gMax nm ts i) .no)
  | 0, h => absurd h (Nat.lt_irrefl _)
  | 1, _ => by
    have e : gMax nm ts 1 = 0 := by
      show (if _ then 0 else gMax nm ts 0) = 0
      split <;> rfl
    rw [e]
    exact ⟨Nat.zero_lt_one, fun j h => by cases (show j = 0 by omega); exact Nat.le_refl _, fun j h => absurd h (Nat.not_lt_zero _)⟩
  | i + 2, _ => by
    obtain ⟨h1, h2, h3⟩ := gMax_top (nm := nm) ok (i + 1) (Nat.succ_pos _)
    have e : gMax nm ts (i + 2) = if gtB nm (ts.getD (i + 1) .no).st (ts.getD (gMax nm ts (i + 1)) .no).st = true then i + 1 else gMax nm ts (i + 1) := rfl
    rw [gt_ky (ok _) (ok _)] at e
    by_cases c : kyN nm (ts.getD (gMax nm ts (i + 1)) .no) < kyN nm (ts.getD (i + 1) .no)
    · rw [if_pos (decide_eq_true c)] at e
      rw [e]
      refine ⟨Nat.lt_succ_self _, fun j h => ?_, fun j h => Nat.lt_of_le_of_lt (h2 j h) c⟩
      by_cases q : j = i + 1
      · rw [q]
        exact Nat.le_refl _
      · exact Nat.le_of_lt (Nat.lt_of_le_of_lt (h2 j (by omega)) c)
    · rw [if_neg (fun z => c (of_decide_eq_true z))] at e
      rw [e]
      refine ⟨by omega, fun j h => ?_, h3⟩
      by_cases q : j = i + 1
      · rw [q]
        exact Nat.le_of_not_lt c
      · exact h2 j (by omega)
/-- the first that none is greater than is the greatest -/
theorem first_top {nm : Bool} {ts : List T3} {g : Nat} (ok : ∀ i, (ts.getD i .no).Ok) (hg : g < ts.length) (top : Top nm ts g) (low : ∀ j, j < g → ¬ Top nm ts j) : g = gMax nm ts ts.length := by
  obtain ⟨h1, h2, h3⟩ := gMax_top (nm := nm) ok ts.length (Nat.lt_of_le_of_lt (Nat.zero_le _) hg)
  rcases Nat.lt_trichotomy g (gMax nm ts ts.length) with c | c | c
  · have a := h3 g c
    have b := top _ h1
    rw [gt_ky (ok _) (ok _)] at b
    exact absurd a (of_decide_eq_false b)
  · exact c
  · refine absurd (fun j hj => ?_) (low _ c)
    rw [gt_ky (ok _) (ok _)]
    exact decide_eq_false (Nat.not_lt.mpr (h2 j hj))
theorem some_top {nm : Bool} {ts : List T3} (ok : ∀ i, (ts.getD i .no).Ok) (h : 0 < ts.length) : Top nm ts (gMax nm ts ts.length) := fun j hj => by
  obtain ⟨_, h2, _⟩ := gMax_top (nm := nm) ok ts.length h
  rw [gt_ky (ok _) (ok _)]
  exact decide_eq_false (Nat.not_lt.mpr (h2 j hj))
end K27
end

section
set_option Elab.async false
set_option linter.all false
set_option maxRecDepth 100000
set_option maxHeartbeats 4000000
/-! [row for row in rows if [more for more in rows if ..] == []][0] -/
namespace K27
open PySem PySem.Spec L2 KZ
theorem dds_dp {K : PySem.W.Frag} {H : Hp} {as : List Addr} {ts : List T3} (h : Paired (TpAt H) as ts) : DpAll K H (as.map V.ref) (ts.map T3.dd) := by
  induction h with
  | nil => exact .nil
  | cons hh _ ih => exact .cons (tp_dp hh) ih
theorem dds_can : ∀ {ts : List T3}, (∀ t ∈ ts, t.Ok) → PyData.canLayAll0 (ts.map T3.dd) = true ∧ PyData.depthAll (ts.map T3.dd) ≤ 10
  | [], _ => ⟨rfl, Nat.zero_le _⟩
  | t :: ts, h => by
    obtain ⟨h1, h2⟩ := dds_can (ts := ts) fun x m => h x (List.mem_cons_of_mem _ m)
    refine ⟨?_, ?_⟩
    · show (PyData.canLay0 t.dd && PyData.canLayAll0 (ts.map T3.dd)) = true
      rw [dd_can (h t List.mem_cons_self), h1]
      rfl
    · show max t.dd.depth (PyData.depthAll (ts.map T3.dd)) ≤ 10
      have : t.dd.depth ≤ 10 := by cases t <;> exact (by show max (max 0 (max 0 0) + 1) (max 0 (max 0 0)) + 1 ≤ 10; decide)
      exact Nat.max_le.mpr ⟨this, h2⟩
theorem dds_sh {ts : List T3} (h : ∀ t ∈ ts, t.Ok) : SeqAt.shaped (.list (ts.map T3.dd)) = true := by
  obtain ⟨h1, h2⟩ := dds_can h
  have e : SeqAt.shaped (.list (ts.map T3.dd)) = (PyData.canLayAll0 (ts.map T3.dd) && decide (PyData.depthAll (ts.map T3.dd) + 1 ≤ 64)) := rfl
  rw [e, h1, decide_eq_true (by omega)]
  rfl
theorem dds_nil (ts : List T3) : PyData.eqv (.list (ts.map T3.dd)) (.list []) = decide (ts = []) := by
  cases ts with
  | nil => decide
  | cons t ts => exact (decide_eq_false (fun z => nomatch z)).symm
theorem tps_updL {H : Hp} {d : Addr} {xs : List V} {o : HO} {as : List Addr} {ts : List T3} (hd : H d = some (.lst xs)) (h : Paired (TpAt H) as ts) : Paired (TpAt (upd H d o)) as ts := Paired.mapP h fun _ _ z => tp_updL hd z
theorem tps_mono {H H' : Hp} {as : List Addr} {ts : List T3} (s : Same H H') (h : Paired (TpAt H) as ts) : Paired (TpAt H') as ts := Paired.mapP h fun _ _ z => z.mono s
theorem tps_at {H : Hp} {as : List Addr} {ts : List T3} (h : Paired (TpAt H) as ts) {i : Nat} (hi : i < ts.length) : ∃ a, as[i]? = some a ∧ TpAt H a (ts.getD i .no) := by
  have l : as.length = ts.length := Paired.length h
  have ia : i < as.length := by omega
  obtain ⟨t, e, tp⟩ := paired_get h (List.getElem?_eq_getElem ia)
  refine ⟨_, List.getElem?_eq_getElem ia, ?_⟩
  rw [List.getD_eq_getElem?_getD, e]
  exact tp
theorem getD_ok {ts : List T3} (h : ∀ t ∈ ts, t.Ok) (i : Nat) : (ts.getD i .no).Ok := by
  rw [List.getD_eq_getElem?_getD]
  cases e : ts[i]? with
  | none => trivial
  | some t => exact h t (List.mem_of_getElem? e)
theorem same_pop {H H1 : Hp} {D : Addr} {o : HO} (s : Same H H1) (h : H D = none) : Same H (upd H1 D o) := fun b u e => by
  rw [upd_ne (fun z => by rw [z, h] at e; cases e)]
  exact s _ _ e
theorem ym_ref {as : List Addr} {i : Nat} {y : V} {a : Addr} (hy : (as.map V.ref)[i]? = some y) (ha : as[i]? = some a) : y = .ref a := by
  rw [List.getElem?_map, ha] at hy
  exact (Option.some.inj hy).symm
section
variable {K : PySem.W.Frag} {nm : Bool} {CMP : TT} {D : Addr} {as : List Addr} {ts : List T3} {x0 x2 x3 x4 x5 x6 x7 x8 x9 x10 x11 : Option V}
theorem more_go {a : Addr} {s : T3} {H : Hp} {Q : VK} (hD : H D = some (.lst (as.map V.ref))) (tp : Paired (TpAt H) as ts) (ok : ∀ t ∈ ts, t.Ok) (l63 : ts.length ≤ 1000) (ha : TpAt H a s)
    (hc : ∀ (b : Addr) (t : T3) (H' : Hp) (Q : Bool → Hp → Prop), TpAt H' a s → TpAt H' b t → Q (gtB nm t.st s.st) H' → CMP [x0, some (.ref D), x2, x3, x4, x5, x6, x7, x8, x9, some (.ref a), some (.ref b)] H' Q)
    (q : ∀ H', Same H H' → Q (.bl (decide (∀ j, j < ts.length → gtB nm (ts.getD j .no).st s.st = false))) H') :
    tOp (rEqD K) (tLc (iList K (tVar 1)) (gName 11) CMP (tVar 11) [11]) (tLst tNil) [x0, some (.ref D), x2, x3, x4, x5, x6, x7, x8, x9, some (.ref a), x11] H Q := by
  have la : as.length = ts.length := Paired.length tp
  refine ⟨.ref D, rfl, D, rfl, ⟨_, SqL.of hD⟩, fun M hM => ?_⟩
  refine lc_it (walk_list (K := K) (a := D) (xs := as.map V.ref)) (fun j H' => Same H H' ∧ ∃ bs us, H' M = some (.lst (bs.map V.ref)) ∧ Paired (TpAt H') bs us ∧ (∀ u ∈ us, u.Ok) ∧ us.length ≤ j ∧ (us = [] ↔ ∀ k, k < j → gtB nm (ts.getD k .no).st s.st = false))
    ⟨same_new hM, [], [], upd_same, .nil, (fun _ m => nomatch m), Nat.le_refl _, ⟨fun _ k h => absurd h (Nat.not_lt_zero _), fun _ => rfl⟩⟩ (fun _ H' _ z => SqL.of (z.1 _ _ hD)) ?_ ?_
  · rintro j y _ H2 hj ⟨s1, bs, us, c1, c2, c3, c4, c5⟩ ⟨rfl, hy⟩
    rw [List.length_map, la] at hj
    obtain ⟨b, hb, tb⟩ := tps_at tp hj
    cases ym_ref hy hb
    refine ⟨rfl, hc b _ _ _ (ha.mono s1) (tb.mono s1) ?_⟩
    cases e : gtB nm (ts.getD j .no).st s.st with
    | true =>
      show (if true = true then _ else _)
      rw [if_pos rfl]
      refine ⟨.ref b, rfl, _, c1, ?_, same_pop s1 hM, bs ++ [b], us ++ [ts.getD j .no], ?_, ?_, ?_, ?_, ?_⟩
      · rw [List.length_map, Paired.length c2, sizeLine_eq]
        omega
      · rw [upd_same, List.map_append]
        rfl
      · exact tps_updL c1 (Paired.snoc c2 (tb.mono s1))
      · intro u m
        rcases List.mem_append.mp m with m | m
        · exact c3 u m
        · rw [List.mem_singleton.mp m]
          exact getD_ok ok j
      · rw [List.length_append, List.length_singleton]
        omega
      · exact ⟨fun z => absurd z (by simp), fun z => by rw [z j (Nat.lt_succ_self _)] at e; cases e⟩
    | false =>
      show (if false = true then _ else _)
      rw [if_neg Bool.false_ne_true]
      refine ⟨s1, bs, us, c1, c2, c3, by omega, c5.trans ⟨fun z k hk => ?_, fun z k hk => z k (by omega)⟩⟩
      by_cases q : k = j
      · rw [q]
        exact e
      · exact z k (by omega)
  · rintro H2 ⟨s1, bs, us, c1, c2, c3, c4, c5⟩
    rw [List.length_map, la] at c4 c5
    refine ⟨by show 0 ≤ sizeLine; exact Nat.zero_le _, fun N hN => ?_⟩
    have s2 := s1.trans (same_new (o := .lst []) hN)
    refine ⟨.list (us.map T3.dd), .list [], .lst (SqL.of (same_new hN _ _ c1)) (dds_dp (tps_mono (same_new hN) c2)), .lst (SqL.of upd_same) .nil, dds_sh c3, rfl, ?_⟩
    rw [dds_nil, decide_eq_decide.mpr c5]
    exact q _ s2
theorem first_go {H : Hp} {Q : VK} (hD : H D = some (.lst (as.map V.ref))) (tp : Paired (TpAt H) as ts) (ok : ∀ t ∈ ts, t.Ok) (pos : 0 < ts.length) (l63 : ts.length ≤ 1000)
    (hc : ∀ (a b : Addr) (s t : T3) (H' : Hp) (Q : Bool → Hp → Prop), TpAt H' a s → TpAt H' b t → Q (gtB nm t.st s.st) H' → CMP [x0, some (.ref D), x2, x3, x4, x5, x6, x7, x8, x9, some (.ref a), some (.ref b)] H' Q)
    (q : ∀ H' a, Same H H' → as[gMax nm ts ts.length]? = some a → Q (.ref a) H') :
    tOp (rIxL K) (tLc (iList K (tVar 1)) (gName 10) (tTest (tOp (rEqD K) (tLc (iList K (tVar 1)) (gName 11) CMP (tVar 11) [11]) (tLst tNil))) (tVar 10) [10]) (tC (.int 0)) [x0, some (.ref D), x2, x3, x4, x5, x6, x7, x8, x9, x10, x11] H Q := by
  have la : as.length = ts.length := Paired.length tp
  have okD := getD_ok ok
  refine ⟨.ref D, rfl, D, rfl, ⟨_, SqL.of hD⟩, fun L hL => ?_⟩
  refine lc_it (walk_list (K := K) (a := D) (xs := as.map V.ref)) (fun i H' => Same H H' ∧ ∃ bs, H' L = some (.lst bs) ∧ bs.length ≤ i ∧ ((bs = [] ∧ ∀ j, j < i → ¬ Top nm ts j) ∨ ∃ g a r, bs = .ref a :: r ∧ as[g]? = some a ∧ g < ts.length ∧ Top nm ts g ∧ ∀ j, j < g → ¬ Top nm ts j))
    ⟨same_new hL, [], upd_same, Nat.le_refl _, .inl ⟨rfl, fun j h => absurd h (Nat.not_lt_zero _)⟩⟩ (fun _ H' _ z => SqL.of (z.1 _ _ hD)) ?_ ?_
  · rintro i y _ H2 hi ⟨s1, bs, c1, c2, c3⟩ ⟨rfl, hy⟩
    rw [List.length_map, la] at hi
    obtain ⟨a, hb, ta⟩ := tps_at tp hi
    cases ym_ref hy hb
    refine ⟨rfl, more_go (nm := nm) (s1 _ _ hD) (tps_mono s1 tp) ok l63 (ta.mono s1) (fun b t H' Q h1 h2 z => hc a b _ t H' Q h1 h2 z) fun H3 s3 => ⟨_, rfl, ?_⟩⟩
    have s13 := s1.trans s3
    by_cases top : Top nm ts i
    · rw [decide_eq_true (show ∀ j, j < ts.length → gtB nm (ts.getD j .no).st (ts.getD i .no).st = false from top)]
      show (if true = true then _ else _)
      rw [if_pos rfl]
      refine ⟨.ref a, rfl, bs, s3 _ _ c1, by rw [sizeLine_eq]; omega, same_pop s13 hL, bs ++ [.ref a], upd_same, ?_, .inr ?_⟩
      · rw [List.length_append, List.length_singleton]
        omega
      · rcases c3 with ⟨rfl, low⟩ | ⟨g, a', r, rfl, h1, h2⟩
        · exact ⟨i, a, [], rfl, hb, hi, top, low⟩
        · exact ⟨g, a', r ++ [.ref a], rfl, h1, h2⟩
    · rw [decide_eq_false (show ¬ ∀ j, j < ts.length → gtB nm (ts.getD j .no).st (ts.getD i .no).st = false from top)]
      show (if false = true then _ else _)
      rw [if_neg Bool.false_ne_true]
      refine ⟨s13, bs, s3 _ _ c1, by omega, ?_⟩
      rcases c3 with ⟨rfl, low⟩ | z
      · refine .inl ⟨rfl, fun j hj => ?_⟩
        by_cases q : j = i
        · rw [q]
          exact top
        · exact low j (by omega)
      · exact .inr z
  · rintro H2 ⟨s1, bs, c1, c2, c3⟩
    rw [List.length_map, la] at c3
    rcases c3 with ⟨rfl, low⟩ | ⟨g, a, r, rfl, h1, h2, top, low⟩
    · exact absurd (some_top okD pos) (low _ (gMax_top (nm := nm) okD ts.length pos).1)
    · refine ⟨L, _, 0, .ref a, rfl, rfl, SqL.of c1, at_nat (i := 0) rfl, q _ a s1 ?_⟩
      rw [← first_top okD h2 top low]
      exact h1
end
end K27
end

section
set_option Elab.async false
set_option linter.all false
set_option maxRecDepth 100000
set_option maxHeartbeats 4000000
/-! stamps: which is greater, the greatest, nothing -/
namespace K27
open PySem PySem.Spec L2 KZ
abbrev sSR : Stmt := top 29
theorem blkOk_in {N : List Str} {sc scope : Scope} {own : List (Str × Nat)} (h : blkC N sc scope own = true) : BlkOk N sc scope own := blkOk_by h
theorem op_eqDK {X : Cx} (K : PySem.W.Frag) (hu : X.A.units + 64 < cLine) (h : X.K = K := by rfl) : OpR X (compareOp .Eq) (rEqD K) := by subst h; exact op_eqD hu
theorem op_gtISK {X : Cx} (K : PySem.W.Frag) (hu : X.A.units < cLine) (h : X.K = K := by rfl) : OpR X (compareOp .Gt) (rGtIS K) := by subst h; exact op_gtIS hu
theorem pi_listK {X : Cx} {tg l : Expr} {tl : TE} (K : PySem.W.Frag) (hl : PE X l tl) (h : X.K = K := by rfl) : PI X tg l (iList K tl) := by subst h; exact pi_list hl
/-- which is greater, the greatest: with what they are told of names left out -/
structure GrA (P : Program) (w : World) (K : PySem.W.Frag) (mg : Str → Option Value) (base : Heap) (CK : Addr) : Prop where
  gr : ∃ f fd, mg "is_greater" = some (.ref f) ∧ FnOk P w K mg base CX0 1 f fd ["one", "other", "names"] (spGr K CK) ∧ PySem.W.keepIn K (.ref f) = true ∧ Binds K fd ["one", "other", "names"] [.bool true] ∧ ∃ g, KBn K fd ["one", "other", "names"] 2 ["names"] g fun vs zs => vs ++ zs
  gt : ∃ f fd, mg "greatest" = some (.ref f) ∧ FnOk P w K mg base CX0 2 f fd ["kepts", "names"] (spGreat K CK) ∧ PySem.W.keepIn K (.ref f) = true ∧ Binds K fd ["kepts", "names"] [.bool true] ∧ Binds K fd ["kepts", "names"] []
theorem at_neg1 {α : Type} {xs : List α} {v : α} (h : xs[xs.length - 1]? = some v) : atI xs (-1) = some v := by
  have hl := (List.getElem?_eq_some_iff.mp h).1
  unfold atI ixN
  rw [if_neg (by omega), if_pos (by omega)]
  show xs[((-1 : Int) + (xs.length : Int)).toNat]? = some v
  rw [show ((-1 : Int) + (xs.length : Int)).toNat = xs.length - 1 by omega]
  exact h
theorem tp_kept {H H' : Hp} {q cc : Addr} {cells : List Int} {n m : Nat} {a : Addr} {t : T3} (pn : PenAt H q cc cells n) (pn' : PenAt H' q cc cells m) (k : Kept q H H') (h : TpAt H a t) : TpAt H' a t := by
  obtain ⟨_, _, e1, _⟩ := pn.ex
  obtain ⟨_, _, e2, _⟩ := pn'.ex
  exact (tp_updL e1 h).mono (kept_same k e2)
theorem pen_pop {H : Hp} {p c D : Addr} {cells : List Int} {n : Nat} {o : HO} (h : PenAt H p c cells n) (n1 : D ≠ p) (n2 : D ≠ c) : PenAt (upd H D o) p c cells n := by
  obtain ⟨a, g, h1, h2⟩ := h.ex
  exact ⟨⟨a, g, by rw [upd_ne n1.symm]; exact h1, h2⟩, by rw [upd_ne n2.symm]; exact h.cs, h.few, h.ne⟩
theorem bools_rp : ∀ b1 b2 : Bool, (PyData.list [.bool b1, .bool b2]).showable = true ∧ (PyData.list [.bool b1, .bool b2]).shown.length ≤ 10000 ∧ (PyData.list [.bool b1, .bool b2]).depth ≤ 40 := by decide +kernel
section
variable {P : Program} {w : World} {K : PySem.W.Frag} {mg : Str → Option Value} {base : Heap} {CK CH cB fIt t0 : Addr}
theorem scSR : FnScope ["well", "rows", "one", "other", "told", "first", "lean", "made", "empty", "turn", "row", "more"] ["well"] (defScope sSR) := ⟨rfl, rfl, rfl, by decide +kernel, rfl, by decide +kernel, by decide +kernel⟩
theorem ok_sr {f : Addr} {fd : FuncData} (F : Fun K "_law_stamps_right" "_law_stamps_right" sSR f fd) (T : B1 mg) (hmd : ModsD base) (HF : HoF P w K mg base CK CH cB fIt) (GA : GrA P w K mg base CK) (made : Cal P w K mg base "_law_made" 5 ["told"] (spLM K CK)) (draw : Cal P w K mg base "_law_draw" 1 ["well", "many"] spDraw)
    (kept : Cal P w K mg base "_law_kept" 3 ["well"] spLK) : FnG P w K mg base CX0 13 f fd ["well"] spYes := by
  obtain ⟨fM, dM, gM, GM, kM, bM⟩ := made.ex
  obtain ⟨fD, dD, gD, GD, kD, bD⟩ := draw.ex
  obtain ⟨fK, dK, gK, GK, kK, bK⟩ := kept.ex
  obtain ⟨fG, dG, gG, GG, kG, bG1, gg, kbG⟩ := GA.gr
  obtain ⟨fGt, dGt, gGt, GGt, kGt, bGt1, bGt⟩ := GA.gt
  obtain ⟨fKe, dKe, FKe, OKe, nfK⟩ := HF.ke
  obtain ⟨fNo, dNo, gNo, GNo, kNo, bNo⟩ := HF.no
  have AK := HF.AK
  refine okG F scSR (fun vs H Q E h => ?_) (fun cdv A' outer s H vs Q E hgd hr h => ?_)
  · obtain ⟨p, c, cells, n, rfl, _⟩ := h
    rfl
  · obtain ⟨p, c, cells, n, rfl, pen, hn, q⟩ := h
    have hr5 : Room 5 _ := hr.mono (by decide)
    have hrN : Room 5 _ := hr.mono (by decide)
    have hr3 : Room 3 _ := hr.mono (by decide)
    have hr2 : Room 2 _ := hr.mono (by decide)
    have hr1 : Room 1 _ := hr.mono (by decide)
    have vG : Vals [V.bl true] [Value.bool true] := .cons rfl .nil
    refine ⟨_, (pss_cons (ps_set (i := 1) scSR.nd rfl (Or.inr rfl) (pe_lc (own := [("turn", 9)]) (g := gName 9) (tt := tYes) (by rfl) scSR.nd (pi_range1 (by rfl) T.range (pa_cons (pe_op op_add pe_int (pe_call GD hr1 (by rfl) gD kD bD .nil pass0 (pa_cons (pv 0) (pa_cons pe_int pa_nil)))) pa_nil)) (blkOk_by (own := [("turn", 9)]) (N := ["well", "rows", "one", "other", "told", "first", "lean", "made", "empty", "turn", "row", "more"]) (sc := defScope sSR) (by decide +kernel)) (fun _ _ _ _ _ => pg_name (i := 9) scSR.nd rfl (Or.inl rfl)) (fun _ _ _ _ _ => pts_nil) (fun _ _ _ _ _ => pe_call GK hr3 (by rfl) gK kK bK .nil pass0 (pa_cons (pv 0) pa_nil))))
(pss_cons (ps_par (i := 2) (j := 3) (by rfl) scSR.nd rfl rfl (by decide) rfl rfl (pa_cons (pe_ix ix_list (pv 1) pe_int (fun _ _ => rfl)) (pa_cons (pe_ix ix_list (pv 1) (pe_un un_neg pe_int) (fun _ _ => rfl)) pa_nil)) (by rfl))
(pss_cons (ps_set (i := 4) scSR.nd rfl (Or.inl rfl) (pe_lst (pa_cons (pe_call GG hr1 (by rfl) gG kG bG1 vG pass0 (pa_cons (pe_call GM hr5 (by rfl) gM kM bM .nil pass0 (pa_cons (pv 2) pa_nil)) (pa_cons (pe_call GM hr5 (by rfl) gM kM bM .nil pass0 (pa_cons (pv 3) pa_nil)) pa_nil))) (pa_cons (pe_callN GG hr1 (by rfl) gG kG kbG pass0 (pa_cons (pe_call GM hr5 (by rfl) gM kM bM .nil pass0 (pa_cons (pv 2) pa_nil)) (pa_cons (pe_call GM hr5 (by rfl) gM kM bM .nil pass0 (pa_cons (pv 3) pa_nil)) pa_nil)) (pk_cons pe_bl pk_nil)) pa_nil))))
(pss_cons (ps_if (pt_cmpR op_ne (pe_callB (call_reprD hgd hr.units hmd) (by rfl) T.repr (by decide +kernel) (pa_cons (pv 4) pa_nil)) (pe_callB (call_reprD hgd hr.units hmd) (by rfl) T.repr (by decide +kernel) (pa_cons (pe_lst (pa_cons (pe_cmpR (op_gtIS hr.units0) (pe_ix (ix_seqK K) (pv 2) pe_int (fun _ _ => rfl)) (pe_ix (ix_seqK K) (pv 3) pe_int (fun _ _ => rfl)) (nomark _)) (pa_cons (pe_cmpR op_gt (pe_ix (ix_seqK K) (pe_ix (ix_seqK K) (pv 2) pe_int (fun _ _ => rfl)) pe_int (fun _ _ => rfl)) (pe_ix (ix_seqK K) (pe_ix (ix_seqK K) (pv 3) pe_int (fun _ _ => rfl)) pe_int (fun _ _ => rfl)) (nomark _)) pa_nil))) pa_nil)) (nomark _))
(pss_one (ps_ret pe_bl))
pss_nil)
(pss_cons (ps_set (i := 5) scSR.nd rfl (Or.inl rfl) (pe_ix ix_list (pe_lc (own := [("row", 10)]) (g := gName 10) (by rfl) scSR.nd (pi_list (pv 1)) (blkOk_by (own := [("row", 10)]) (N := ["well", "rows", "one", "other", "told", "first", "lean", "made", "empty", "turn", "row", "more"]) (sc := defScope sSR) (by decide +kernel)) (fun _ _ _ _ _ => pg_name (i := 10) scSR.nd rfl (Or.inr rfl)) (fun _ _ _ _ _ => pts_one (pt_cmpR (op_eqDK K hr.units) (pe_lc (own := [("more", 11)]) (g := gName 11) (by rfl) scSR.nd (pi_listK K (pv 1)) (blkOk_in (own := [("more", 11)]) (N := ["well", "rows", "one", "other", "told", "first", "lean", "made", "empty", "turn", "row", "more"]) (by rfl)) (fun _ _ _ _ _ => pg_name (i := 11) scSR.nd rfl (Or.inl rfl)) (fun _ _ _ _ _ => pts_one (pt_cmpR (op_gtISK K hr.units0) (pe_ix (ix_seqK K) (pv 11) pe_int (fun _ _ => rfl)) (pe_ix (ix_seqK K) (pv 10) pe_int (fun _ _ => rfl)) (nomark _))) (fun _ _ _ _ _ => pv 11)) (pe_lst pa_nil) (nomark _))) (fun _ _ _ _ _ => pv 10)) pe_int (fun _ _ => rfl)))
(pss_cons (ps_set (i := 6) scSR.nd rfl (Or.inl rfl) (pe_ix ix_list (pe_lc (own := [("row", 10)]) (g := gName 10) (by rfl) scSR.nd (pi_list (pv 1)) (blkOk_by (own := [("row", 10)]) (N := ["well", "rows", "one", "other", "told", "first", "lean", "made", "empty", "turn", "row", "more"]) (sc := defScope sSR) (by decide +kernel)) (fun _ _ _ _ _ => pg_name (i := 10) scSR.nd rfl (Or.inr rfl)) (fun _ _ _ _ _ => pts_one (pt_cmpR (op_eqDK K hr.units) (pe_lc (own := [("more", 11)]) (g := gName 11) (by rfl) scSR.nd (pi_listK K (pv 1)) (blkOk_in (own := [("more", 11)]) (N := ["well", "rows", "one", "other", "told", "first", "lean", "made", "empty", "turn", "row", "more"]) (by rfl)) (fun _ _ _ _ _ => pg_name (i := 11) scSR.nd rfl (Or.inl rfl)) (fun _ _ _ _ _ => pts_one (pt_cmpR op_gt (pe_ix (ix_seqK K) (pe_ix (ix_seqK K) (pv 11) pe_int (fun _ _ => rfl)) pe_int (fun _ _ => rfl)) (pe_ix (ix_seqK K) (pe_ix (ix_seqK K) (pv 10) pe_int (fun _ _ => rfl)) pe_int (fun _ _ => rfl)) (nomark _))) (fun _ _ _ _ _ => pv 11)) (pe_lst pa_nil) (nomark _))) (fun _ _ _ _ _ => pv 10)) pe_int (fun _ _ => rfl)))
(pss_cons (ps_setLc (i := 7) (own := [("row", 10)]) (g := gName 10) (tt := tYes) (by rfl) scSR.nd rfl rfl (sw_true rfl rfl rfl (by decide +kernel)) (pi_list (pv 1)) (blkOk_by (own := [("row", 10)]) (N := ["well", "rows", "one", "other", "told", "first", "lean", "made", "empty", "turn", "row", "more"]) (sc := defScope sSR) (by decide +kernel)) (fun _ _ _ _ _ => pg_name (i := 10) scSR.nd rfl (Or.inl rfl)) (fun _ _ _ _ _ => pts_nil) (fun _ _ _ _ _ => pe_call GM hr5 (by rfl) gM kM bM .nil pass0 (pa_cons (pv 10) pa_nil)))
(pss_cons (ps_if (PW.pt (pw_or (pt_cmpR (op_neO FKe OKe pass0 hr2) (pe_call GGt hr2 (by rfl) gGt kGt bGt1 vG pass0 (pa_cons (pv 7) pa_nil)) (pe_call GM hr5 (by rfl) gM kM bM .nil pass0 (pa_cons (pv 5) pa_nil)) (nomark _)) (pw_or1 (pt_cmpR (op_neO FKe OKe pass0 hr2) (pe_call GGt hr2 (by rfl) gGt kGt bGt .nil pass0 (pa_cons (pe_callTy call_tuple_of (by rfl) T.tuple (by decide +kernel) (pa_cons (pv 7) pa_nil)) (pa_cons pe_bl pa_nil))) (pe_call GM hr5 (by rfl) gM kM bM .nil pass0 (pa_cons (pv 6) pa_nil)) (nomark _)))))
(pss_one (ps_ret pe_bl))
pss_nil)
(pss_cons (ps_set (i := 8) scSR.nd rfl (Or.inl rfl) (pe_call0 GNo hrN (by rfl) gNo kNo bNo .nil pass0))
(pss_one (ps_ret (pe_and (pe_cmpR (op_eqD hr.units) (pe_tup (pa_cons (pe_fldK K (pv 8) rfl) (pa_cons (pe_fldK K (pv 8) rfl) (pa_cons (pe_fldK K (pv 8) rfl) pa_nil)))) (pe_tup (pa_cons (pe_tup (pa_cons pe_int (pa_cons pe_str pa_nil))) (pa_cons pe_non (pa_cons pe_non pa_nil)))) (nomark _)) (pe_one (pe_cmpR (op_eqO FKe OKe pass0 hr1) (pe_call0 GNo hrN (by rfl) gNo kNo bNo .nil pass0) (pv 8) (nomark _))))))))))))))), ?_⟩
    refine ⟨.ref p, rfl, p, c, cells, n, 6, rfl, pen, by omega, by decide, by decide, fun tn H1 tl0 tl1 pen1 kp1 => ⟨1, tn, rfl, rfl, 1 + tn, rfl, by omega, by omega, fun D hD => ?_⟩⟩
    have nD := pen1.nn hD
    refine lc_it (walk_range (lo := 0) (n := (1 + tn).toNat)) (fun i H' => ∃ as ts, H' D = some (.lst (as.map V.ref)) ∧ Paired (TpAt H') as ts ∧ ts.length = i ∧ (∀ t ∈ ts, t.Ok) ∧ PenAt H' p c cells (n + 3 + 4 * i) ∧ Kept p H H')
      ⟨[], [], upd_same, .nil, rfl, (fun _ m => nomatch m), pen1.mono (same_new hD) (by omega), kp1.trans (Kept.of (same_new hD))⟩ (fun _ _ _ _ => True.intro) ?_ ?_
    · rintro i y _ H2 hi ⟨as, ts, c1, c2, c3, c4, c5, c6⟩ ⟨rfl, rfl⟩
      have l6 : i ≤ 6 := by omega
      refine ⟨rfl, yes_go ⟨.ref p, rfl, p, c, cells, _, rfl, c5, by omega, fun t a H3 ok pen3 kp3 tp => ⟨_, kp3 _ _ nD.1 c1, ?_, as ++ [a], ts ++ [t], ?_, ?_, ?_, ?_, ?_, ?_⟩⟩⟩
      · rw [List.length_map, Paired.length c2, c3, sizeLine_eq]
        omega
      · rw [upd_same, List.map_append]
        rfl
      · exact tps_updL (kp3 _ _ nD.1 c1) (Paired.snoc (Paired.mapP c2 fun _ _ z => tp_kept c5 pen3 kp3 z) tp)
      · rw [List.length_append, c3]
        rfl
      · intro u m
        rcases List.mem_append.mp m with m | m
        · exact c4 u m
        · rw [List.mem_singleton.mp m]
          exact ok
      · exact (pen_pop pen3 nD.1 nD.2).more (by omega)
      · exact fun b o nb e => by
          have e1 := kp1 b o nb e
          rw [upd_ne (fun z => by rw [z, hD] at e1; cases e1)]
          exact kp3 b o nb (c6 b o nb e)
    rintro H2 ⟨as, ts, c1, c2, c3, c4, c5, c6⟩
    have okD := getD_ok c4
    have lt : 0 < ts.length ∧ ts.length ≤ 7 := by omega
    have pen2 : PenAt H2 p c cells (n + 900) := c5.more (by omega)
    clear hD nD c5 kp1 pen1
    obtain ⟨a0, ha0, tp0⟩ := tps_at c2 lt.1
    obtain ⟨aL, haL, tpL⟩ := tps_at c2 (i := ts.length - 1) (by omega)
    have la : as.length = ts.length := Paired.length c2
    dsimp only [gName]
    refine ⟨.ref D, rfl, ⟨D, _, 0, .ref a0, rfl, rfl, SqL.of c1, at_nat (i := 0) (by rw [List.getElem?_map, ha0]; rfl), .ref D, rfl, 1, rfl, D, _, -1, .ref aL, rfl, rfl, SqL.of c1, at_neg1 (by rw [List.getElem?_map, List.length_map, la, haL]; rfl), _, _, rfl, ?_⟩⟩
    have ok0 := okD 0
    have okL := okD (ts.length - 1)
    generalize ts.getD 0 .no = t0 at tp0 ok0
    generalize ts.getD (ts.length - 1) .no = tL at tpL okL
    refine ⟨.ref a0, rfl, a0, t0, rfl, tp0, fun b1 H3 s3 k1 => ⟨.ref aL, rfl, aL, tL, rfl, tpL.mono s3, fun b2 H4 s4 k2 => ⟨b1, b2, t0, tL, true, rfl, k1.mono s4, k2, ?_⟩⟩⟩
    have s24 := s3.trans s4
    refine ⟨.ref a0, rfl, a0, t0, rfl, tp0.mono s24, fun b3 H5 s5 k3 => ⟨.ref aL, rfl, aL, tL, rfl, (tpL.mono s24).mono s5, fun b4 H6 s6 k4 => ⟨rfl, rfl, b3, b4, t0, tL, false, rfl, k3.mono s6, k4, ?_⟩⟩⟩
    have s26 := s24.trans (s5.trans s6)
    clear k1 k2 k3 k4 s3 s4 s5 s6 s24
    refine ⟨by show 2 ≤ sizeLine; decide, fun l7 h7 => ?_⟩
    have s27 := s26.trans (same_new (o := .lst [.bl (gtB true t0.st tL.st), .bl (gtB false t0.st tL.st)]) h7)
    have e7 : (upd H6 l7 (.lst [.bl (gtB true t0.st tL.st), .bl (gtB false t0.st tL.st)])) l7 = some (.lst [.bl (gtB true t0.st tL.st), .bl (gtB false t0.st tL.st)]) := upd_same
    generalize upd H6 l7 (.lst [.bl (gtB true t0.st tL.st), .bl (gtB false t0.st tL.st)]) = H7 at s27 e7 ⊢
    obtain ⟨r1, r2, r3⟩ := bools_rp (gtB true t0.st tL.st) (gtB false t0.st tL.st)
    refine ⟨.ref l7, rfl, .ref l7, _, rfl, .lst (SqL.of e7) (.cons (.bl _) (.cons (.bl _) .nil)), r1, r2, r3, ?_⟩
    obtain ⟨sa, ha1, ha2⟩ := id (tp0.mono s27)
    obtain ⟨sL, hL1, hL2⟩ := id (tpL.mono s27)
    have q0 : Sq K H7 a0 _ := .inr (SqT.of ha1)
    have qs : Sq K H7 sa _ := .inr (SqT.of ha2)
    have qL : Sq K H7 aL _ := .inr (SqT.of hL1)
    have qt : Sq K H7 sL _ := .inr (SqT.of hL2)
    refine ⟨.ref a0, rfl, q0.ix (at_nat (i := 0) rfl) ⟨.ref aL, rfl, qL.ix (at_nat (i := 0) rfl) ⟨sa, sL, _, _, _, _, rfl, rfl, SqT.of ha2, SqT.of hL2, ?_⟩⟩⟩
    refine ⟨.ref a0, rfl, q0.ix (at_nat (i := 0) rfl) (qs.ix (at_nat (i := 0) rfl) ⟨.ref aL, rfl, qL.ix (at_nat (i := 0) rfl) (qt.ix (at_nat (i := 0) rfl) ⟨_, _, rfl, rfl, ?_⟩)⟩)⟩
    refine ⟨by show 2 ≤ sizeLine; decide, fun l8 h8 => ?_⟩
    have s28 := s27.trans (same_new (o := .lst [.bl (gtB true t0.st tL.st), .bl (gtB false t0.st tL.st)]) h8)
    have e8 : (upd H7 l8 (.lst [.bl (gtB true t0.st tL.st), .bl (gtB false t0.st tL.st)])) l8 = some (.lst [.bl (gtB true t0.st tL.st), .bl (gtB false t0.st tL.st)]) := upd_same
    refine ⟨.ref l8, .list [.bool (gtB true t0.st tL.st), .bool (gtB false t0.st tL.st)], rfl, .lst (SqL.of e8) (.cons (.bl _) (.cons (.bl _) .nil)), r1, r2, r3, rfl, _, rfl, ?_⟩
    rw [decide_eq_true rfl]
    refine iteF ?_
    have s28 : Same H2 (upd H7 l8 (.lst [.bl (gtIS t0.st.1 t0.st.2 tL.st.1 tL.st.2), .bl (decide (tL.st.1 < t0.st.1))])) := s28
    generalize upd H7 l8 (.lst [.bl (gtIS t0.st.1 t0.st.2 tL.st.1 tL.st.2), .bl (decide (tL.st.1 < t0.st.1))]) = H8 at s28 ⊢
    clear q0 qs qL qt ha1 ha2 hL1 hL2 r1 r2 r3 e7 e8 h8 s27 s26 h7
    dsimp only [tSeq, tAsg]
    refine first_go (K := K) (nm := true) (s28 _ _ c1) (tps_mono s28 c2) c4 lt.1 (by omega) (fun a b s t H' Q ⟨sa, h1, h2⟩ ⟨sb, h3, h4⟩ q => ?_) fun H9 fa s9 hfa => ?_
    · exact ⟨.ref b, rfl, Sq.ix (K := K) (.inr (SqT.of h3)) (at_nat (i := 0) rfl) ⟨.ref a, rfl, Sq.ix (K := K) (.inr (SqT.of h1)) (at_nat (i := 0) rfl) ⟨sb, sa, _, _, _, _, rfl, rfl, SqT.of h4, SqT.of h2, _, rfl, q⟩⟩⟩
    dsimp only [gName]
    refine first_go (K := K) (nm := false) (s9 _ _ (s28 _ _ c1)) (tps_mono (s28.trans s9) c2) c4 lt.1 (by omega) (fun a b s t H' Q ⟨sa, h1, h2⟩ ⟨sb, h3, h4⟩ q => ?_) fun H10 fb s10 hfb => ?_
    · exact ⟨.ref b, rfl, Sq.ix (K := K) (.inr (SqT.of h3)) (at_nat (i := 0) rfl) (Sq.ix (K := K) (.inr (SqT.of h4)) (at_nat (i := 0) rfl) ⟨.ref a, rfl, Sq.ix (K := K) (.inr (SqT.of h1)) (at_nat (i := 0) rfl) (Sq.ix (K := K) (.inr (SqT.of h2)) (at_nat (i := 0) rfl) ⟨_, _, rfl, rfl, _, rfl, q⟩)⟩)⟩
    dsimp only [gName]
    have s210 := s28.trans (s9.trans s10)
    clear s28 s9 s10
    have d10 := s210 _ _ c1
    have tp10 := tps_mono s210 c2
    have gT := (gMax_top (nm := true) okD ts.length lt.1).1
    have gF := (gMax_top (nm := false) okD ts.length lt.1).1
    obtain ⟨fa', hfa', tfa⟩ := tps_at tp10 gT
    obtain ⟨fb', hfb', tfb⟩ := tps_at tp10 gF
    cases hfa.symm.trans hfa'
    cases hfb.symm.trans hfb'
    refine ⟨.ref D, rfl, D, rfl, ⟨_, SqL.of d10⟩, fun M hM => ?_⟩
    refine lc_it (walk_list (K := K) (a := D) (xs := as.map V.ref)) (fun i H' => Same H10 H' ∧ ∃ bs, H' M = some (.lst (bs.map V.ref)) ∧ Paired (KtAt K CK H') bs (ts.take i)) ⟨same_new hM, [], upd_same, .nil⟩ (fun _ H' _ z => SqL.of (z.1 _ _ d10)) ?_ ?_
    · rintro j y _ H11 hj ⟨s1, bs, m1, m2⟩ ⟨rfl, hy⟩
      rw [List.length_map, la] at hj
      obtain ⟨b, hb, tb⟩ := tps_at tp10 hj
      cases ym_ref hy hb
      refine ⟨rfl, yes_go ⟨.ref b, rfl, b, _, rfl, tb.mono s1, fun b2 H12 s2 k2 => ⟨_, s2 _ _ m1, ?_, same_pop (s1.trans s2) hM, bs ++ [b2], ?_, ?_⟩⟩⟩
      · rw [List.length_map, Paired.length m2, List.length_take, sizeLine_eq]
        omega
      · rw [upd_same, List.map_append]
        rfl
      · rw [List.take_add_one, show ts[j]?.toList = [ts.getD j .no] by rw [List.getD_eq_getElem?_getD, List.getElem?_eq_getElem hj]; rfl]
        exact Paired.mapP (Paired.snoc (Paired.mapP m2 fun _ _ z => z.mono s2) k2) fun _ _ z => kt_updL (s2 _ _ m1) z
    rintro H11 ⟨s11, bs, m1, m2⟩
    rw [List.length_map, la, List.take_length] at m2
    dsimp only [gName]
    have at_g : ∀ {i : Nat} {a : Addr} {H' : Hp}, Same H11 H' → i < ts.length → bs[i]? = some a → KtAt K CK H' a (ts.getD i .no) := by
      intro i a H' s hi ha
      obtain ⟨t, e, k⟩ := paired_get m2 ha
      rw [List.getD_eq_getElem?_getD, e]
      exact k.mono s
    refine ⟨.ref M, rfl, M, bs, ts, true, rfl, .inl (SqL.of m1), m2, lt.1, fun g1 hg1 => ?_⟩
    refine ⟨.ref fa, rfl, fa, _, rfl, tfa.mono s11, fun g2 H12 s12 k2 => ?_⟩
    have k1 := at_g s12 gT hg1
    obtain ⟨d1, _, _, _, e1, _⟩ := id k1
    obtain ⟨d2, _, _, _, e2, _⟩ := id k2
    refine ⟨g1, d1, _, .ref CK, rfl, e1, AK.ty _ _ _ _ e2, nfK, spE_kt k1 k2 (okD _) (okD _) ⟨_, rfl, _, rfl, ?_⟩⟩
    rw [decide_eq_true rfl]
    refine iteF' ⟨.ref M, rfl, M, _, rfl, .inl ⟨SqL.of (s12 _ _ m1), fun tt htt => ?_⟩⟩
    have s13 := s12.trans (same_new (o := .tup (bs.map V.ref)) htt)
    refine ⟨tt, bs, ts, false, rfl, .inr (SqT.of upd_same), Paired.mapP m2 fun _ _ z => z.mono s13, lt.1, fun g3 hg3 => ?_⟩
    refine ⟨.ref fb, rfl, fb, _, rfl, (tfb.mono s11).mono s13, fun g4 H14 s14 k4 => ?_⟩
    have k3 := at_g (s13.trans s14) gF hg3
    obtain ⟨d3, _, _, _, e3, _⟩ := id k3
    obtain ⟨d4, _, _, _, e4, _⟩ := id k4
    refine ⟨g3, d3, _, .ref CK, rfl, e3, AK.ty _ _ _ _ e4, nfK, spE_kt k3 k4 (okD _) (okD _) ⟨_, rfl, _, rfl, ?_⟩⟩
    rw [decide_eq_true rfl]
    have s214 := s210.trans (s11.trans (s13.trans s14))
    clear k1 k2 k3 k4 e1 e2 e3 e4 s12 s13 s14
    refine iteF ⟨rfl, fun em H15 s15 nem kem => ?_⟩
    dsimp only [gName]
    obtain ⟨dxe, v1, v2, v3, he, dv1, dv2, dv3⟩ := id kem
    refine ⟨.ref em, rfl, em, CK, dxe, _, _, rfl, he, AK.cl, AK.no _ (by decide), rfl, .ref em, rfl, em, CK, dxe, _, _, rfl, he, AK.cl, AK.no _ (by decide), rfl, .ref em, rfl, em, CK, dxe, _, _, rfl, he, AK.cl, AK.no _ (by decide), rfl, by show 3 ≤ sizeLine; decide, fun T1 hT1 => ?_⟩
    have w1 := same_new (o := .tup [v1, v2, v3]) hT1
    have u1 : (upd H15 T1 (.tup [v1, v2, v3])) T1 = some (.tup [v1, v2, v3]) := upd_same
    generalize upd H15 T1 (.tup [v1, v2, v3]) = H16 at w1 u1 ⊢
    refine ⟨by show 2 ≤ sizeLine; decide, fun T2 hT2 => ?_⟩
    have w2 := same_new (o := .tup [.int 0, .str ""]) hT2
    have u2 : (upd H16 T2 (.tup [.int 0, .str ""])) T2 = some (.tup [.int 0, .str ""]) := upd_same
    generalize upd H16 T2 (.tup [.int 0, .str ""]) = H17 at w2 u2 ⊢
    refine ⟨by show 3 ≤ sizeLine; decide, fun T3' hT3 => ?_⟩
    have w3 := same_new (o := .tup [.ref T2, .non, .non]) hT3
    have u3 : (upd H17 T3' (.tup [.ref T2, .non, .non])) T3' = some (.tup [.ref T2, .non, .non]) := upd_same
    generalize upd H17 T3' (.tup [.ref T2, .non, .non]) = H18 at w3 u3 ⊢
    have w23 := w2.trans w3
    have w13 := w1.trans w23
    refine ⟨.tuple [.tuple [.int 0, .str ""], .none, .none], .tuple [.tuple [.int 0, .str ""], .none, .none], .tup (SqT.of (w23 _ _ u1)) (.cons (Dv.dp (Dv.mono w13 dv1) T3.no.nod.1) (.cons (Dv.dp (Dv.mono w13 dv2) T3.no.nod.2.1) (.cons (Dv.dp (Dv.mono w13 dv3) T3.no.nod.2.2) .nil))), .tup (SqT.of u3) (.cons (.tup (SqT.of (w3 _ _ u2)) (.cons (.int _) (.cons (.str _) .nil))) (.cons .non (.cons .non .nil))), by decide +kernel, by decide +kernel, _, rfl, ?_⟩
    rw [show PyData.eqv (.tuple [.tuple [.int 0, .str ""], .none, .none]) (.tuple [.tuple [.int 0, .str ""], .none, .none]) = true from by decide +kernel]
    refine iteT' ⟨rfl, fun e2 H19 s19 _ k19 => ⟨.ref em, rfl, ?_⟩⟩
    have kem' := (kem.mono w13).mono s19
    obtain ⟨d3, _, _, _, e3, _⟩ := id k19
    obtain ⟨d4, _, _, _, e4, _⟩ := id kem'
    refine ⟨e2, d3, _, .ref CK, rfl, e3, AK.ty _ _ _ _ e4, nfK, spE_kt k19 kem' trivial trivial ⟨_, rfl, ?_⟩⟩
    rw [decide_eq_true rfl]
    have sF := s214.trans (s15.trans (w13.trans s19))
    exact q _ (pen2.mono sF (Nat.le_refl _)) (c6.trans (Kept.of sF))
end
end K27
end

section
set_option Elab.async false
set_option linter.all false
set_option maxRecDepth 100000
set_option maxHeartbeats 4000000
/-! k not in d, None among d's keys -/
namespace KZ
open PySem PySem.Spec PyProof.Rows L2
section
variable {X : Cx} {A : Around} {E : Value → Shared → Prop} {pins : List (Addr × Obj)} {σ : L2.St} {H : Hp} {s : Shared} {a : Addr} {kvs : List (NK × V)} {k : NK} {u : Value}
theorem n_notin {Q : Value → Shared → Prop} (I : Inv X pins σ H s) (e : Rd H a (DN X.prog X.w a kvs)) (ry : RelV (nV k) u) (h : ∀ s', Inv X pins σ H s' → Q (.bool (!(valV kvs k).isSome)) s') :
    wpAny (model X.prog X.w) A (compareOp .NotIn u (.ref a)) Q E s := by
  obtain ⟨_, hd, vs, rel, dd⟩ := DN.rd (kvs := kvs) I.hok e
  have e2 := (rel.val k).isSome_eq
  refine wpAny_notIn_of (nV_is ry) hd dd.mapOf ?_
  rw [← e2]
  exact h _ (I.tok _)
end
def tNNotInP (P : Program) (w : World) (ty td : TE) : TE := fun σ H Q => ty σ H fun y H1 => td σ H1 fun x H2 => ∃ a kvs k, x = .ref a ∧ Rd H2 a (DN P w a kvs) ∧ y = nV k ∧ Q (.bl (!(valV kvs k).isSome)) H2
theorem pc_nnotinK {X : Cx} {i o : Expr} {ty td : TE} (P : Program) (w : World) (hi : PE X i ty) (ho : PE X o td) (hP : X.prog = P := by rfl) (hw : X.w = w := by rfl) : PC X .NotIn i o (tNNotInP P w ty td) := by
  subst hP hw
  refine ⟨fun pins s σ H Q I h => thn (hi.run pins s σ H _ I h) fun j s1 ⟨y, H1, I1, ry, q1⟩ => thn (ho.run pins s1 σ H1 _ I1 q1) fun u s2 ⟨x, H2, I2, rx, q2⟩ => ?_⟩
  obtain ⟨a, kvs, k, ex, e2, ey, q⟩ := q2
  subst ex ey
  cases (show u = Value.ref a from rx)
  exact n_notin I2 e2 ry fun s3 I3 => ⟨.bl _, H2, I3, rfl, q⟩
end KZ
end

section
set_option Elab.async false
set_option linter.all false
set_option maxRecDepth 100000
set_option maxHeartbeats 4000000
/-! len(d), None among d's keys -/
namespace KZ
open PySem PySem.Spec PyProof.Rows L2
section
variable {X : Cx}
theorem n_len {A : Around} {E : Value → Shared → Prop} {pins : List (Addr × Obj)} {σ : L2.St} {H : Hp} {s : Shared} {a : Addr} {kvs : List (NK × V)} {Q : Value → Shared → Prop} (I : Inv X pins σ H s) (e : Rd H a (DN X.prog X.w a kvs)) (h : ∀ t s', Inv X pins σ H s' → Q (.int kvs.length t) s') :
    wpAny (model X.prog X.w) A (call (.builtin "len") [.ref a]) Q E s := by
  obtain ⟨z, hd, vs, rel, dd⟩ := DN.rd (kvs := kvs) I.hok e
  have lv : kvs.length = vs.length := rel.length
  have small : vs.length < 2 ^ 63 := by
    rw [← lv]
    exact Nat.lt_of_le_of_lt z (by decide)
  refine call_len_dict hd dd (by omega) ?_
  rw [← lv]
  exact h _ _ (I.tok _)
theorem call_lenNK (P : Program) (w : World) (hP : X.prog = P := by rfl) (hw : X.w = w := by rfl) : CallR X (.builtin "len") (fun xs H Q => ∃ a kvs, xs = [V.ref a] ∧ Rd H a (DN P w a kvs) ∧ Q (.int (kvs.length : Nat)) H) := by
  subst hP hw
  intro pins s σ H xs us Q I r h
  obtain ⟨a, kvs, rfl, ha, q⟩ := h
  obtain ⟨u, rfl, ru⟩ := vals1 r
  cases (show u = Value.ref a from ru)
  exact n_len I ha fun t s' I' => ⟨.int kvs.length, H, I', ⟨t, rfl⟩, q⟩
end
end KZ
end

section
set_option Elab.async false
set_option linter.all false
set_option maxRecDepth 100000
set_option maxHeartbeats 4000000
/-! list(d), None among d's keys -/
namespace KZ
open PySem PySem.Spec PyProof.Rows L2
section
variable {X : Cx}
def rListN (P : Program) (w : World) : List V → Hp → VK → Prop := fun xs H Q => ∃ a kvs, xs = [V.ref a] ∧ Rd H a (DN P w a kvs) ∧ ∀ p, H p = none → Q (.ref p) (upd H p (.lst (kvs.map fun kv => nV kv.1)))
theorem call_listN (P : Program) (w : World) (hc : X.calm = true) (hP : X.prog = P := by rfl) (hw : X.w = w := by rfl) : CallR X (.type "list") (rListN P w) := by
  subst hP hw
  intro pins s σ H xs us Q I r h
  obtain ⟨a, kvs, e, hd, q⟩ := h
  subst e
  obtain ⟨u, eu, rx⟩ := vals1 r
  subst eu
  obtain rfl : u = Value.ref a := rx
  obtain ⟨z, lo, vs, rk, dd⟩ := DN.rd (kvs := kvs) I.hok hd
  obtain ⟨ep, hat⟩ := dd.dictAt
  have hl : kvs.length = vs.length := Paired.length rk
  refine PySem.W.kdl_call (PySem.W.kdl_dict (knd := noneKind X.prog X.w) (kvs := vs) (ep := ep) lo) (I.ok.hd hc) hat (by rw [← hl]; exact z) fun h' tk acc' c' hkeep hS hacc => ?_
  refine ⟨.ref s.heap.objs.size, upd H s.heap.objs.size (.lst (kvs.map fun kv => nV kv.1)), I.laid hkeep (Nat.le_refl _) (show ObjOk X.prog X.w _ _ _ (.lst (kvs.map fun kv => nV kv.1)) from ⟨?_, acc'.toList, c', ?_, ?_⟩), rfl, q _ (I.hok.fresh (Nat.le_refl _))⟩
  · rw [List.length_map]; exact z
  · have el : acc'.toList.length = acc'.size := by simp
    refine vals_of_at (by rw [List.length_map, el, hacc.1, hl]) fun j x w h1 h2 => ?_
    obtain ⟨k, y, hky, hi⟩ := hacc.2 j w (by rw [← Array.getElem?_toList]; exact h2)
    have e1 : (kvs.map (·.1))[j]? = some k := by
      rw [KV.keys rk, List.getElem?_map, hky] <;> rfl
    have e2 : (kvs.map fun kv => nV kv.1)[j]? = some (nV k) := by
      have e3 : (kvs.map fun kv => nV kv.1) = (kvs.map (·.1)).map nV := by rw [List.map_map] <;> rfl
      rw [e3, List.getElem?_map, e1] <;> rfl
    rw [e2] at h1
    cases h1
    exact nV_rel hi
  · rw [Array.toArray_toList]; exact hS
end
end KZ
end

section
set_option Elab.async false
set_option linter.all false
set_option maxRecDepth 100000
set_option maxHeartbeats 4000000
/-! a caught error that is put into a list: try: .. except x as n: m.append(n); a call whose error is told of by the very state -/
namespace KZ
open PySem PySem.Spec PyProof.Rows L2
section
variable {X : Cx}
/-- what the clause wishes of an error of the body: n is slot i, m slot j, a list -/
def wPush (K : PySem.W.Frag) (c : Value) (i j : Nat) (Wo : WX) (D : Ends) : WX := fun cls d σ H =>
  ∃ C, cls = .ref C ∧ ∃ b, PySem.W.exmOne K cls c = some b ∧ (b = true → ∃ L xs, σ[j]? = some (some (.ref L)) ∧ H L = some (.lst xs) ∧ xs.length < sizeLine ∧ ∀ a, H a = none → D.nx ((σ.set i (some (.ref a))).set i none) (upd (upd H L (.lst (xs ++ [.ref a]))) a (EXO C a d))) ∧ (b = false → Wo cls d σ H)
variable {x n m : Str} {c : Value} {i j : Nat} {body : List Stmt} {np np2 mp ap apos cpos pos pos' : Pos} {tb : WX → TS} {Wo : WX}
theorem ps_try_push (hs : X.stack = X.env :: X.outer) (hf : X.env.frame = some X.env.locals) (hex : X.ex = []) (hN : X.N.Nodup) (hi : X.N[i]? = some n) (hln : X.env.kindOf n = some .local) (hj : X.N[j]? = some m) (hlm : X.env.kindOf m = some .local)
    (hc : Names X x c) (tk : Takes X Wo) (hij : i ≠ j) (hdm : (m == ("__debug__" : Str)) = false) (hcm : (m == ("__classdict__" : Str)) = false)
    (hbase : attributeBase (.Name m mp) "append" X.env (eval (.Name m mp) X.env) = eval (.Name m mp) X.env)
    (hfew : ((backTo cpos (starEach [.Name n np2] X.env)).all (fun x => !x.1) && (backToKw cpos (keywordEach [] X.env)).all (fun x => x.1.isSome)
      && decide (([.Name n np2] : List Expr).length + ([] : List Keyword).length + (if ([] : List Keyword).isEmpty then 0 else 1) < 30)) = true)
    (hline : (apos.endLine == cpos.line) = true) (hst : starEach [.Name n np2] X.env = (false, eval (.Name n np2) X.env) :: starEach [] X.env) (hplain : (backTo cpos (starEach [] X.env)).any (·.1) = false)
    (hdn : (n == ("__debug__" : Str)) = false) (hcn : (n == ("__classdict__" : Str)) = false)
    (hb : ∀ (W : WX) (pn : List (Addr × Obj)) (xe : Value → Shared → Prop), Takes (X.tr pn xe) W → PassesOwn (model X.prog X.w) X.A X.env xe → PSs (X.tr pn xe) body (tb W)) :
    PS X (.Try body [.ExceptHandler (some (.Name x np)) (some n) [.Expr (.Call (.Attribute (.Name m mp) "append" apos) [.Name n np2] [] cpos) ap] pos'] [] [] pos) (fun D σ H => tb (wPush X.K c i j Wo D) D σ H) := by
  refine ⟨fun pins s σ H D I h => ?_⟩
  have ok0 := I.ok
  have hfr : X.A.frames = some (X.env :: X.outer) := ok0.frames.trans (congrArg some hs)
  refine wpAny_Try_except ?_
  let Wl := wPush X.K c i j Wo D
  let hd1 : ExceptHandler := .ExceptHandler (some (.Name x np)) (some n) [.Expr (.Call (.Attribute (.Name m mp) "append" apos) [.Name n np2] [] cpos) ap] pos'
  refine wpAny_mono ((hb Wl (X.pn ++ pins) (fun e s₁ => wpAny (model X.prog X.w) X.A (noteFrame e X.env) (fun _ s₂ => wpAny (model X.prog X.w) X.A (setFlight e none) (fun _ s₃ => wpAny (model X.prog X.w) X.A (handleBy e X.env [hd1]) (SP X pins D) X.xe s₃) X.xe s₂) X.xe s₁)
    (fun u s' xx => ?_) PassesOwn.looking).run [] s σ H D (I.toTry _) h) (fun f s1 hsp => ?_) (fun e s1 he => he)
  · obtain ⟨a, B, sI, pins', σ', H', cls, d, rfl, J', nb, up, sky, na, os, ag, C, rfl, b, hb1, hyes, hno⟩ := xx
    have J : Inv X pins σ' H' sI := J'.ofTry ok0
    have sky' : Sky B (X.env :: X.outer) a (Zc (.ref C) d) X.env.locals s'.heap := hs ▸ sky
    show wpAny (model X.prog X.w) X.A (noteFrame (.ref a) X.env) _ _ _
    refine Sky.land Zc.steady hfr hf sky' fun h3 fl3 up3 => ?_
    have J3 : Inv X pins σ' H' { s' with heap := h3 } := J.landed nb fl3.1 (up.trans up3) os ag
    obtain ⟨oe3, vs3, he3, hz3, hd3⟩ := fl3.there
    have nfr : a ∉ frs (X.env :: X.outer) := fun hm => by
      obtain ⟨_, o', e', hnf⟩ := fl3.2.2.1.mem hm
      rw [he3] at e'
      cases e'
      exact hnf _ hd3
    have nL : a ≠ X.env.locals := fun z => nfr (List.mem_filterMap.mpr ⟨X.env, List.mem_cons_self, by rw [hf, z]⟩)
    have nF : a ∉ X.fs := fun hm => by
      obtain ⟨ev, hev, q⟩ := List.mem_filterMap.mp hm
      exact nfr (List.mem_filterMap.mpr ⟨ev, List.mem_cons_of_mem _ hev, q⟩)
    have nst : a ∉ frs X.stack := by rw [hs]; exact nfr
    have nB : B.get? a = none := fl3.2.1
    have nI : sI.heap.get? a = none := by
      cases q : sI.heap.get? a with
      | none => rfl
      | some o =>
        have z := nb a o q nst
        rw [nB] at z
        cases z
    have n0 : X.s_0.heap.get? a = none := by
      cases q : X.s_0.heap.get? a with
      | none => rfl
      | some o =>
        obtain ⟨o', z⟩ := J.base.there a o q (by rw [hex]; exact fun z => nomatch z)
        rw [nI] at z
        cases z
    have npin : ∀ p ∈ X.pn ++ pins, p.1 ≠ a := fun p hp z => by
      have q := (J.pin p hp).1
      rw [z, nI] at q
      cases q
    have S3 := J3.suite he3 hd3 na nL nF
    refine wpAny_handleBy_cons (codeAny_handlers_test ?_) (by intro q; cases q)
    have LT : PySem.W.Looks (model X.prog X.w) h3 (typeOf (.ref a)) (.ref C) := fun A Q E s k q => wpAny_typeOf_ref (k _ _ he3) (by rw [hz3.1]; exact q)
    have LM := PySem.W.exm_one (M := model X.prog X.w) (J3.kIn) LT hb1
    have test : ∀ {Q : Value → Shared → Prop} {E : Value → Shared → Prop}, Q c { s' with heap := h3 } → wpAny (model X.prog X.w) (X.A.mark (some (.ref a))) (eval (.Name x np) X.env) Q E { s' with heap := h3 } := fun {Q E} q => by
      rcases hc with ⟨hg, hdbg, hm' | ⟨hm', hv, hnn⟩⟩
      · exact ld_glob (X := X.suite a ((a, oe3) :: (X.pn ++ pins))) S3 hg hm' q hdbg
      · exact ld_blt (X := X.suite a ((a, oe3) :: (X.pn ++ pins))) S3 hg hm' hv q hnn hdbg
    refine test (LM.here ?_)
    cases b with
    | true =>
      refine codeAny_handlers_suite_as (HandSPX.lands_againZ fl3 fun h4 fl4 up4 => ?_)
      have J4 : Inv X pins σ' H' { s' with heap := h4 } := J.landed nb fl4.1 ((up.trans up3).trans up4) os ag
      obtain ⟨oe4, vs4, he4, hz4, hd4⟩ := fl4.there
      have S4 := J4.suite he4 hd4 na nL nF
      have hi' : i < σ'.length := by rw [J4.len]; exact (List.getElem?_eq_some_iff.mp hi).1
      refine store_ok (X := X.suite a ((a, oe4) :: (X.pn ++ pins))) (v := .ref a) S4 hN hi (.inl hln) rfl (fun s5 S5 => ?_) (.inr hln)
      obtain ⟨L, xs, hj', hL, xl, hnx⟩ := hyes rfl
      have nLa : L ≠ a := ne_of_none hL na
      have R := pss_one (X := X.suite a ((a, oe4) :: (X.pn ++ pins))) (ps_expr (X := X.suite a ((a, oe4) :: (X.pn ++ pins))) (pos := ap) (pe_bm (X := X.suite a ((a, oe4) :: (X.pn ++ pins))) PySem.F.plainAttrs_list PySem.F.slot_list_append PySem.F.type_list_append mt_append (pe_var (i := j) (pos := mp) hj (.inl hlm) hdm hcm) (pa_cons (pe_var (i := i) (pos := np2) hi (.inl hln) hdn hcn) pa_nil) hbase hfew hline hst hplain))
      let D' : Ends := { nx := fun σ6 H6 => σ6 = σ'.set i (some (.ref a)) ∧ H6 = upd H' L (.lst (xs ++ [.ref a])), rt := fun _ _ => False }
      refine wpAny_mono (R.run [] s5 _ H' D' S5 ?_) (fun f s6 hsp => ?_) (fun _ _ z => False.elim z)
      · exact ⟨.ref L, by rw [List.getElem?_set_ne hij]; exact hj', .inl ⟨rfl, _, SqL.of hL⟩, .ref a, List.getElem?_set_self hi', L, xs, .ref a, rfl, rfl, hL, xl, rfl, rfl⟩
      · cases f with
        | next =>
          obtain ⟨σ6, H6, S6, rfl, rfl⟩ := hsp
          have he6 := (S6.pin (a, oe4) (List.mem_append_left _ List.mem_cons_self)).1
          have T6 := track (S6.unsuite ok0) he6 hz4 hd4 (by rw [upd_ne (Ne.symm nLa)]; exact na) n0 npin nL
          exact gone_ok T6 hN hi hln fun s7 J7 => ⟨_, _, J7, hnx a na⟩
        | brk => obtain ⟨_, _, _, z⟩ := hsp; exact z.elim
        | cont => obtain ⟨_, _, _, z⟩ := hsp; exact z.elim
        | ret u => obtain ⟨_, _, _, _, _, z⟩ := hsp; exact z.elim
    | false =>
      show wpAny _ X.A (handleBy (.ref a) X.env []) _ _ _
      refine wpAny_handleBy_nil ?_
      obtain ⟨k1, k2, k3, oe, vs, T, oT, ts', he, hz, hd, h1, hr⟩ := id fl3
      unfold PySem.passOn
      refine wpAny_bind (wpAny_field he hd h1 ?_)
      rw [if_neg (show ¬ ((Value.ref T == Value.none) = true) from by simp)]
      have fin : wpAny (model X.prog X.w) X.A (setFlight (.ref a) X.env.frame) (fun _ s4 => wpAny (model X.prog X.w) X.A (throw (.ref a) : Sem Flow) (SP X pins D) X.xe s4) X.xe { s' with heap := h3 } := by
        rw [hf]
        refine HandSPX.setFlight_upZ fl3 fun h4 hh4 up4 => wpAny_throw (tk _ _ ⟨a, B, sI, pins, σ', H', .ref C, d, rfl, J, nb, (up.trans up3).trans up4, .inr (.inr (by rw [hs]; exact hh4)), na, os, ag, hno rfl⟩)
      first
        | exact wpAny_bind (wpAny_pure (wpAny_bind fin))
        | exact wpAny_bind fin
  · cases f with
    | next =>
      obtain ⟨σ', H', J', q⟩ := hsp
      exact wpAny_execs_nil ⟨σ', H', J'.ofTry ok0, q⟩
    | ret u =>
      obtain ⟨v, σ', H', J', r, q⟩ := hsp
      exact ⟨v, σ', H', J'.ofTry ok0, r, q⟩
    | _ =>
      obtain ⟨σ', H', J', q⟩ := hsp
      exact ⟨σ', H', J'.ofTry ok0, q⟩

end
section
variable {X : Cx} {k : Nat} {f : Addr} {fd : FuncData} {ps : List Str} {sp : Sp} {dvs : List V} {ds : List Value} {W : WX} {x : Str} {p pos : Pos} {e : Expr} {es : List Expr} {t : TA}
theorem run_fnW {pins : List (Addr × Obj)} {σ : L2.St} {H : Hp} {s : Shared} {Q : VK} {us : List Value} {vs : List V} (F : FnOk X.prog X.w X.K X.mg X.base (L2.CX X.prog X.w) k f fd ps sp) (hr : Room k X.A) (hb : Binds X.K fd ps ds) (hd : Vals dvs ds) (tk : Takes X W)
    (I : Inv X pins σ H s) (r : Vals vs us) (h : sp (vs ++ dvs) H Q (fun cls d H' => W cls d σ H')) : wpAny (model X.prog X.w) X.A (call (.ref f) us) (EP X pins σ Q) X.xe s := by
  have r2 : Vals (vs ++ dvs) (us ++ ds) := r.append hd
  have hl : (us ++ ds).length = ps.length := by rw [← r2.length]; exact F.len _ _ _ _ h
  refine wpAny_call (codeAny_mono (F.run X.A X.stack s H ⟨us, []⟩ (us ++ ds) (vs ++ dvs) Q _ hr I.env0 (hb s us I.kIn hl) r2 h) fun r s' hq => ?_)
  cases r with
  | error e => exact tk e s' (XE.of_call I (fun cls d H' h => h) hq)
  | ok fl =>
    cases fl with
    | ret u => exact I.after hq
    | next => exact False.elim hq
    | brk => exact False.elim hq
    | cont => exact False.elim hq
/-- f(e, ..), what is let out told of by the very state -/
def tCallW (sp : Sp) (dvs : List V) (W : WX) (t : TA) : TE := fun σ H Q => t σ H fun vs H1 => sp (vs ++ dvs) H1 Q (fun cls d H' => W cls d σ H')
theorem pe_callW (F : FnOk X.prog X.w X.K X.mg X.base (L2.CX X.prog X.w) k f fd ps sp) (hr : Room k X.A) (hg : Gl X x) (hm : X.mg x = some (.ref f)) (hk : PySem.W.keepIn X.K (.ref f) = true) (hb : Binds X.K fd ps ds) (hd : Vals dvs ds) (tk : Takes X W)
    (ha : PA X (e :: es) t) (hdb : (x == ("__debug__" : Str)) = false := by decide) (he : starEach (e :: es) X.env = (false, eval e X.env) :: starEach es X.env := by rfl) (hpl : (backTo pos (starEach es X.env)).any (·.1) = false := by rfl) :
    PE X (.Call (.Name x p) (e :: es) [] pos) (tCallW sp dvs W t) := by
  refine ⟨fun pins s σ H Q I h => ?_⟩
  refine wpAny_Call_Name_kw (ld_glob I hg hm ?_ hdb)
  refine PySem.W.callWith_K (h₀ := X.base) I.ok.mod.kin hk (thn (ha.run pos pins s σ H _ I h) fun us s1 ⟨vs, H1, I1, r, q⟩ => ⟨I1.kIn, ?_⟩) he hpl
  exact run_fnW F hr hb hd tk I1 r q
end
end KZ
end

section
set_option Elab.async false
set_option linter.all false
set_option maxRecDepth 100000
set_option maxHeartbeats 4000000
/-! a caught error that the clause's suite looks at: try: .. except x as n: suite; what is let out by a method, by a class that is made, told of by the very state -/
namespace KZ
open PySem PySem.Spec PyProof.Rows L2
section
variable {X : Cx}
/-- what the clause wishes of an error of the body: n is slot i, the suite's reading ts -/
def wTrk (K : PySem.W.Frag) (c : Value) (i : Nat) (ts : TS) (Wo : WX) (D : Ends) : WX := fun cls d σ H =>
  ∃ C, cls = .ref C ∧ ∃ b, PySem.W.exmOne K cls c = some b ∧ (b = true → ∀ a, H a = none → ts { nx := fun σ' H' => D.nx (σ'.set i none) H', rt := fun _ _ => False } (σ.set i (some (.ref a))) (upd H a (EXO C a d))) ∧ (b = false → Wo cls d σ H)
variable {x n : Str} {c : Value} {i : Nat} {body suite : List Stmt} {b₀ : Stmt} {np pos pos' : Pos} {tb : WX → TS} {ts : TS} {Wo : WX}
theorem suite0 {pins : List (Addr × Obj)} {σ : L2.St} {H : Hp} {s : Shared} (I : Inv X pins σ H s) (a : Addr) : Inv (X.suite a (X.pn ++ pins)) [] σ H s :=
  ⟨I.ok.suite _ _, I.os, I.bare, I.base, I.loc, I.cell, I.free, I.freeC, fun p hp => I.pin p (by rw [List.append_nil] at hp; exact hp), I.hok, I.len⟩
theorem unplain {a : Addr} {pins pn' : List (Addr × Obj)} {σ : L2.St} {H : Hp} {s : Shared} (I : Inv (X.suite a (X.pn ++ pins)) pn' σ H s) (ok : X.Ok) : Inv X pins σ H s :=
  ⟨ok, I.os, I.bare, I.base, I.loc, I.cell, I.free, I.freeC, fun p hp => I.pin p (List.mem_append_left _ hp), I.hok, I.len⟩
theorem ps_try_trk (hs : X.stack = X.env :: X.outer) (hf : X.env.frame = some X.env.locals) (hex : X.ex = []) (hN : X.N.Nodup) (hi : X.N[i]? = some n) (hln : X.env.kindOf n = some .local)
    (hc : Names X x c) (tk : Takes X Wo)
    (hb : ∀ (W : WX) (pn : List (Addr × Obj)) (xe : Value → Shared → Prop), Takes (X.tr pn xe) W → PassesOwn (model X.prog X.w) X.A X.env xe → PSs (X.tr pn xe) body (tb W))
    (hsu : ∀ (a : Addr) (pn : List (Addr × Obj)), PSs (X.suite a pn) (b₀ :: suite) ts) :
    PS X (.Try body [.ExceptHandler (some (.Name x np)) (some n) (b₀ :: suite) pos'] [] [] pos) (fun D σ H => tb (wTrk X.K c i ts Wo D) D σ H) := by
  refine ⟨fun pins s σ H D I h => ?_⟩
  have ok0 := I.ok
  have hfr : X.A.frames = some (X.env :: X.outer) := ok0.frames.trans (congrArg some hs)
  refine wpAny_Try_except ?_
  let Wl := wTrk X.K c i ts Wo D
  let hd1 : ExceptHandler := .ExceptHandler (some (.Name x np)) (some n) (b₀ :: suite) pos'
  refine wpAny_mono ((hb Wl (X.pn ++ pins) (fun e s₁ => wpAny (model X.prog X.w) X.A (noteFrame e X.env) (fun _ s₂ => wpAny (model X.prog X.w) X.A (setFlight e none) (fun _ s₃ => wpAny (model X.prog X.w) X.A (handleBy e X.env [hd1]) (SP X pins D) X.xe s₃) X.xe s₂) X.xe s₁)
    (fun u s' xx => ?_) PassesOwn.looking).run [] s σ H D (I.toTry _) h) (fun f s1 hsp => ?_) (fun e s1 he => he)
  · obtain ⟨a, B, sI, pins', σ', H', cls, d, rfl, J', nb, up, sky, na, os, ag, C, rfl, b, hb1, hyes, hno⟩ := xx
    have J : Inv X pins σ' H' sI := J'.ofTry ok0
    have sky' : Sky B (X.env :: X.outer) a (Zc (.ref C) d) X.env.locals s'.heap := hs ▸ sky
    show wpAny (model X.prog X.w) X.A (noteFrame (.ref a) X.env) _ _ _
    refine Sky.land Zc.steady hfr hf sky' fun h3 fl3 up3 => ?_
    have J3 : Inv X pins σ' H' { s' with heap := h3 } := J.landed nb fl3.1 (up.trans up3) os ag
    obtain ⟨oe3, vs3, he3, hz3, hd3⟩ := fl3.there
    have nfr : a ∉ frs (X.env :: X.outer) := fun hm => by
      obtain ⟨_, o', e', hnf⟩ := fl3.2.2.1.mem hm
      rw [he3] at e'
      cases e'
      exact hnf _ hd3
    have nL : a ≠ X.env.locals := fun z => nfr (List.mem_filterMap.mpr ⟨X.env, List.mem_cons_self, by rw [hf, z]⟩)
    have nF : a ∉ X.fs := fun hm => by
      obtain ⟨ev, hev, q⟩ := List.mem_filterMap.mp hm
      exact nfr (List.mem_filterMap.mpr ⟨ev, List.mem_cons_of_mem _ hev, q⟩)
    have nst : a ∉ frs X.stack := by rw [hs]; exact nfr
    have nB : B.get? a = none := fl3.2.1
    have nI : sI.heap.get? a = none := by
      cases q : sI.heap.get? a with
      | none => rfl
      | some o =>
        have z := nb a o q nst
        rw [nB] at z
        cases z
    have n0 : X.s_0.heap.get? a = none := by
      cases q : X.s_0.heap.get? a with
      | none => rfl
      | some o =>
        obtain ⟨o', z⟩ := J.base.there a o q (by rw [hex]; exact fun z => nomatch z)
        rw [nI] at z
        cases z
    have npin : ∀ p ∈ X.pn ++ pins, p.1 ≠ a := fun p hp z => by
      have q := (J.pin p hp).1
      rw [z, nI] at q
      cases q
    have S3 := J3.suite he3 hd3 na nL nF
    refine wpAny_handleBy_cons (codeAny_handlers_test ?_) (by intro q; cases q)
    have LT : PySem.W.Looks (model X.prog X.w) h3 (typeOf (.ref a)) (.ref C) := fun A Q E s k q => wpAny_typeOf_ref (k _ _ he3) (by rw [hz3.1]; exact q)
    have LM := PySem.W.exm_one (M := model X.prog X.w) (J3.kIn) LT hb1
    have test : ∀ {Q : Value → Shared → Prop} {E : Value → Shared → Prop}, Q c { s' with heap := h3 } → wpAny (model X.prog X.w) (X.A.mark (some (.ref a))) (eval (.Name x np) X.env) Q E { s' with heap := h3 } := fun {Q E} q => by
      rcases hc with ⟨hg, hdbg, hm' | ⟨hm', hv, hnn⟩⟩
      · exact ld_glob (X := X.suite a ((a, oe3) :: (X.pn ++ pins))) S3 hg hm' q hdbg
      · exact ld_blt (X := X.suite a ((a, oe3) :: (X.pn ++ pins))) S3 hg hm' hv q hnn hdbg
    refine test (LM.here ?_)
    cases b with
    | true =>
      refine codeAny_handlers_suite_as (HandSPX.lands_againZ fl3 fun h4 fl4 up4 => ?_)
      have J4 : Inv X pins σ' H' { s' with heap := h4 } := J.landed nb fl4.1 ((up.trans up3).trans up4) os ag
      obtain ⟨oe4, vs4, he4, hz4, hd4⟩ := fl4.there
      have S4 := J4.suite he4 hd4 na nL nF
      refine store_ok (X := X.suite a ((a, oe4) :: (X.pn ++ pins))) (v := .ref a) S4 hN hi (.inl hln) rfl (fun s5 S5 => ?_) (.inr hln)
      have he5 := (S5.pin (a, oe4) (List.mem_append_left _ List.mem_cons_self)).1
      have T5 : Inv (X.suite a (X.pn ++ pins)) [] (σ'.set i (some (.ref a))) (upd H' a (EXO C a d)) s5 :=
        track (X := X.suite a (X.pn ++ pins)) (suite0 (Inv.unsuite S5 ok0) a) he5 hz4 hd4 na n0 (fun p hp => npin p (by rw [List.append_nil] at hp; exact hp)) nL
      refine wpAny_mono ((hsu a (X.pn ++ pins)).run [] s5 _ _ _ T5 (hyes rfl a na)) (fun f s6 hsp => ?_) (fun _ _ z => False.elim z)
      cases f with
      | next =>
        obtain ⟨σ6, H6, S6, q6⟩ := hsp
        exact gone_ok (unplain S6 ok0) hN hi hln fun s7 J7 => ⟨_, _, J7, q6⟩
      | brk => obtain ⟨_, _, _, z⟩ := hsp; exact z.elim
      | cont => obtain ⟨_, _, _, z⟩ := hsp; exact z.elim
      | ret u => obtain ⟨_, _, _, _, _, z⟩ := hsp; exact z.elim
    | false =>
      show wpAny _ X.A (handleBy (.ref a) X.env []) _ _ _
      refine wpAny_handleBy_nil ?_
      obtain ⟨k1, k2, k3, oe, vs, T, oT, ts', he, hz, hd, h1, hr⟩ := id fl3
      unfold PySem.passOn
      refine wpAny_bind (wpAny_field he hd h1 ?_)
      rw [if_neg (show ¬ ((Value.ref T == Value.none) = true) from by simp)]
      have fin : wpAny (model X.prog X.w) X.A (setFlight (.ref a) X.env.frame) (fun _ s4 => wpAny (model X.prog X.w) X.A (throw (.ref a) : Sem Flow) (SP X pins D) X.xe s4) X.xe { s' with heap := h3 } := by
        rw [hf]
        refine HandSPX.setFlight_upZ fl3 fun h4 hh4 up4 => wpAny_throw (tk _ _ ⟨a, B, sI, pins, σ', H', .ref C, d, rfl, J, nb, (up.trans up3).trans up4, .inr (.inr (by rw [hs]; exact hh4)), na, os, ag, hno rfl⟩)
      first
        | exact wpAny_bind (wpAny_pure (wpAny_bind fin))
        | exact wpAny_bind fin
  · cases f with
    | next =>
      obtain ⟨σ', H', J', q⟩ := hsp
      exact wpAny_execs_nil ⟨σ', H', J'.ofTry ok0, q⟩
    | ret u =>
      obtain ⟨v, σ', H', J', r, q⟩ := hsp
      exact ⟨v, σ', H', J'.ofTry ok0, r, q⟩
    | _ =>
      obtain ⟨σ', H', J', q⟩ := hsp
      exact ⟨σ', H', J'.ofTry ok0, q⟩
end
section
variable {X : Cx} {k : Nat} {f C : Addr} {fd : FuncData} {ps : List Str} {sp : Sp} {dvs : List V} {ds : List Value} {W : WX} {x m : Str} {p pos apos : Pos} {e o : Expr} {es : List Expr} {t : TA} {ta : TE}
/-- o.m(e, ..), what is let out told of by the very state -/
def tMethW (C : Addr) (m : Str) (sp : Sp) (dvs : List V) (W : WX) (ta : TE) (t : TA) : TE := fun σ H Q => ta σ H fun x H1 => ∃ a dx fs, x = .ref a ∧ H1 a = some (.ins C dx fs) ∧ fs.lookup m = none ∧
  t σ H1 fun vs H2 => sp (x :: (vs ++ dvs)) H2 Q (fun cls d H' => W cls d σ H')
theorem pe_methW {pl : Sem Bool} (he : PE X o ta) (c : Cls X.K C) (hm : Meth X.K C m f) (F : FnOk X.prog X.w X.K X.mg X.base (L2.CX X.prog X.w) k f fd ps sp) (hr : Room k X.A) (hb : Binds X.K fd ps ds) (hd : Vals dvs ds) (tk : Takes X W) (ha : PA X (e :: es) t)
    (hst : starEach (e :: es) X.env = (false, eval e X.env) :: starEach es X.env := by rfl) (hpl : (backTo pos (starEach es X.env)).any (·.1) = false := by rfl)
    (ht : eval (.Call (.Attribute o m apos) (e :: es) [] pos) X.env = (do
      let ov ← eval o X.env
      standAt apos.atName
      let (f, first) ← holding [ov] (getMethod ov m pl)
      callWith pos f first (backTo pos (starEach (e :: es) X.env)) (backToKw pos (keywordEach [] X.env))) := by rfl) :
    PE X (.Call (.Attribute o m apos) (e :: es) [] pos) (tMethW C m sp dvs W ta t) := by
  refine ⟨fun pins s σ H Q I h => ?_⟩
  refine PySem.W.methodCall_KW (pl := pl) (thn (he.run pins s σ H _ I h) fun u s1 ⟨x, H1, I1, rx, a, dx, fs, ex, ea, l, q⟩ => ?_) ht
  subst ex
  obtain rfl : u = Value.ref a := rx
  refine getmeth_ok I1 ea c hm l ?_
  refine PySem.W.callWith_K (first := [.ref a]) (h₀ := X.base) I.ok.mod.kin hm.kp (thn (ha.run pos pins s1 σ H1 _ I1 q) fun us s2 ⟨vs, H2, I2, r, q2⟩ => ⟨I2.kIn, ?_⟩) hst hpl
  exact run_fnW (us := .ref a :: us) (vs := .ref a :: vs) F hr hb hd tk I2 (.cons rfl r) q2
/-- C(e, ..): what is let out told of by the very state -/
def tMakeW (C : Addr) (sp : Sp) (dvs : List V) (W : WX) (t : TA) : TE := fun σ H Q => t σ H fun vs H1 => ∀ x dx, H1 x = none → H1 dx = none → dx ≠ x →
  sp (.ref x :: (vs ++ dvs)) (upd (upd H1 dx (.own x)) x (.ins C dx [])) (fun v H2 => v = .non ∧ Q (.ref x) H2) (fun cls d H' => W cls d σ H')
theorem run_makeW {pins : List (Addr × Obj)} {σ : L2.St} {H : Hp} {s : Shared} {Q : VK} {us : List Value} {vs : List V} (M : Mk X.K C f) (F : FnOk X.prog X.w X.K X.mg X.base (L2.CX X.prog X.w) k f fd ps sp) (hr : Room (k + 1) X.A) (hb : Binds X.K fd ps ds) (hd : Vals dvs ds)
    (tk : Takes X W) (I : Inv X pins σ H s) (r : Vals vs us)
    (h : ∀ x dx, H x = none → H dx = none → dx ≠ x → sp (.ref x :: (vs ++ dvs)) (upd (upd H dx (.own x)) x (.ins C dx [])) (fun v H2 => v = .non ∧ Q (.ref x) H2) (fun cls d H' => W cls d σ H')) :
    wpAny (model X.prog X.w) X.A (call (.ref C) us) (EP X pins σ Q) X.xe s := by
  have hq := h (s.heap.objs.size + 1) s.heap.objs.size (I.hok.fresh (Nat.le_succ _)) (I.hok.fresh (Nat.le_refl _)) (Nat.ne_of_lt (Nat.lt_succ_self _))
  have I2 := Inv.made (C := C) I
  have r2 : Vals (V.ref (s.heap.objs.size + 1) :: (vs ++ dvs)) (Value.ref (s.heap.objs.size + 1) :: (us ++ ds)) := .cons rfl (r.append hd)
  have hl : (Value.ref (s.heap.objs.size + 1) :: us ++ ds).length = ps.length := by
    have e := r2.length
    rw [F.len _ _ _ _ hq] at e
    exact e.symm
  refine wpAny_call (make_map (f := f) I.kIn M.makes M.init (beq_iff_eq.mp M.fn) (codeAny_mono (F.run _ X.stack _ _ ⟨Value.ref (s.heap.objs.size + 1) :: us, []⟩ (Value.ref (s.heap.objs.size + 1) :: (us ++ ds)) _ _ _ (hr.make C us [])
    (I2.env0.make C us []) (hb _ (Value.ref (s.heap.objs.size + 1) :: us) I2.kIn hl) r2 hq) fun r s' hq' => ?_))
  cases r with
  | error e => exact tk e s' (XE.of_call I2 (fun cls d H' h => h) hq')
  | ok fl =>
    cases fl with
    | ret u =>
      obtain ⟨v, H', I3, rv, ev, q3⟩ := I2.after hq'
      subst ev
      exact ⟨rv, ⟨V.ref (s.heap.objs.size + 1), H', I3, rfl, q3⟩⟩
    | next => exact False.elim hq'
    | brk => exact False.elim hq'
    | cont => exact False.elim hq'
theorem pe_makeW (M : Mk X.K C f) (F : FnOk X.prog X.w X.K X.mg X.base (L2.CX X.prog X.w) k f fd ps sp) (hr : Room (k + 1) X.A) (hg : Gl X x) (hm : X.mg x = some (.ref C)) (hb : Binds X.K fd ps ds) (hd : Vals dvs ds) (tk : Takes X W)
    (ha : PA X (e :: es) t) (hdb : (x == ("__debug__" : Str)) = false := by decide) (he : starEach (e :: es) X.env = (false, eval e X.env) :: starEach es X.env := by rfl) (hpl : (backTo pos (starEach es X.env)).any (·.1) = false := by rfl) :
    PE X (.Call (.Name x p) (e :: es) [] pos) (tMakeW C sp dvs W t) := by
  refine ⟨fun pins s σ H Q I h => ?_⟩
  refine wpAny_Call_Name_kw (ld_glob I hg hm ?_ hdb)
  refine PySem.W.callWith_K (h₀ := X.base) I.ok.mod.kin M.kp (thn (ha.run pos pins s σ H _ I h) fun us s1 ⟨vs, H1, I1, r, q⟩ => ⟨I1.kIn, ?_⟩) he hpl
  exact run_makeW M F hr hb hd tk I1 r q
end
end KZ
end

section
set_option Elab.async false
set_option linter.all false
set_option maxRecDepth 100000
set_option maxHeartbeats 4000000
/-! what a host refuses -/
namespace K27
open PySem PySem.Spec L2 KZ
abbrev sRR : Stmt := top 38
/-- the body of the try -/
def tbRR (K : PySem.W.Frag) (CK CH cB : Addr) (W : WX) : TS := tSeq (tIfS (tTest (tOp rEq (tVar 4) (tC (.int 0)))) (tDrop (tMakeW CH (spHI K CH cB) [] W (tCons (tVar 3) tNil))) (tDrop (tMethW CH "kept" (spHK K CK CH cB) [] W (tMake CH (fun vs H Q _ => spHI K CH cB vs H Q E0) [] E0 (tCons (tC (.int 7)) tNil)) (tCons (tVar 3) tNil)))) (tDrop (tBM K "list" rAppend (tVar 1) (tCons (tC .non) tNil)))
/-- the clause's suite -/
def tsRR (K : PySem.W.Frag) (cB : Addr) : TS := tDrop (tBM K "list" rAppend (tVar 1) (tCons (tIf (tB (tCB (rIsX K) (tCons (tVar 5) (tCons (tC (.ref cB)) tNil)))) (tCB (rRepr K) (tCons (tEf K "value" (tVar 5)) tNil)) (tC (.str "other"))) tNil))
/-- what the errors are -/
structure ErA (P : Program) (w : World) (K : PySem.W.Frag) (mg : Str → Option Value) (base : Heap) (CK CH cB cO : Addr) : Prop where
  ini : ∃ f fd, Mk K CH f ∧ FnOk P w K mg base (L2.CX P w) 7 f fd ["self", "place"] (spHI K CH cB) ∧ Binds K fd ["self", "place"] []
  ex : ExcT K cB
  no : PySem.W.findIn K (.ref cB) "value" = some none
  gB : mg "BadNumber" = some (.ref cB)
  gO : mg "OpenError" = some (.ref cO)
  exm : PySem.W.exmOne K (.ref cB) (.ref cO) = some true
  kit : PySem.W.kitOne K (.ref cB) (.ref cB) = some true
/-- what is odd -/
def oddL : List PyData := [.int (-1), .int 1000000000, .none, .bool true, .str "0", .tuple [.int 0], .list [.int 5]]
theorem odd_f : ∀ d ∈ oddL, within 0 999999999 d = false ∧ d.showable = true ∧ d.shown.length ≤ 10000 ∧ d.depth ≤ 40 := by decide +kernel
theorem odd_cp : ∀ d ∈ oddL, Cp 3 d := by
  intro d m
  simp only [oddL, List.mem_cons, List.not_mem_nil, or_false] at m
  rcases m with rfl | rfl | rfl | rfl | rfl | rfl | rfl
  · exact True.intro
  · exact True.intro
  · exact True.intro
  · exact True.intro
  · exact True.intro
  · exact ⟨by show 1 ≤ 2000; decide, fun d m => by rw [List.mem_singleton.mp m]; exact True.intro⟩
  · exact ⟨by show 1 ≤ 2000; decide, fun d m => by rw [List.mem_singleton.mp m]; exact True.intro⟩
def VAt (L : Addr) (H : Hp) (v : V) : PyData → Prop
  | .int i => v = .int i
  | .none => v = .non
  | .bool b => v = .bl b
  | .str x => v = .str x
  | .tuple ds => ds = [.int 0] ∧ ∃ T, v = .ref T ∧ H T = some (.tup [.int 0])
  | .list ds => ds = [.int 5] ∧ ∃ q, v = .ref q ∧ q ≠ L ∧ H q = some (.lst [.int 5])
  | _ => False
theorem VAt.mono {L : Addr} {H H' : Hp} {v : V} {d : PyData} (s : Same H H') (h : VAt L H v d) : VAt L H' v d := by
  cases d with
  | tuple ds => exact let ⟨e, T, e1, e2⟩ := h; ⟨e, T, e1, s _ _ e2⟩
  | list ds => exact let ⟨e, T, e1, n, e2⟩ := h; ⟨e, T, e1, n, s _ _ e2⟩
  | int i => exact h
  | none => exact h
  | bool b => exact h
  | str x => exact h
  | _ => exact h
theorem VAt.upd {L : Addr} {H : Hp} {v : V} {d : PyData} {xs : List V} {o : HO} (hL : H L = some (.lst xs)) (h : VAt L H v d) : VAt L (upd H L o) v d := by
  cases d with
  | tuple ds => exact let ⟨e, T, e1, e2⟩ := h; ⟨e, T, e1, by rw [upd_ne (fun z => by rw [z, hL] at e2; cases e2)]; exact e2⟩
  | list ds => exact let ⟨e, T, e1, n, e2⟩ := h; ⟨e, T, e1, n, by rw [upd_ne n]; exact e2⟩
  | int i => exact h
  | none => exact h
  | bool b => exact h
  | str x => exact h
  | _ => exact h
theorem VAt.dv {K : PySem.W.Frag} {L : Addr} {H : Hp} {v : V} {d : PyData} (h : VAt L H v d) : Dv K H v d := by
  cases d with
  | tuple ds =>
    obtain ⟨rfl, T, rfl, e2⟩ := h
    exact .tup (SqT.of e2) (.cons (.int _) .nil)
  | list ds =>
    obtain ⟨rfl, T, rfl, _, e2⟩ := h
    exact .lst (SqL.of e2) (.cons (.int _) .nil)
  | int i => cases h; exact .int _
  | none => cases h; exact .non
  | bool b => cases h; exact .bl _
  | str x => cases h; exact .str _
  | _ => exact h.elim
theorem VAt.off {L : Addr} {H : Hp} {v : V} {d : PyData} (h : VAt L H v d) : VAt L (offD H) v d := by
  cases d with
  | tuple ds => exact let ⟨e, T, e1, e2⟩ := h; ⟨e, T, e1, off_at e2 fun _ _ z => nomatch z⟩
  | list ds => exact let ⟨e, T, e1, n, e2⟩ := h; ⟨e, T, e1, n, off_at e2 fun _ _ z => nomatch z⟩
  | int i => exact h
  | none => exact h
  | bool b => exact h
  | str x => exact h
  | _ => exact h
theorem pen_popR {H : Hp} {p c D : Addr} {cells : List Int} {n : Nat} {o : HO} (h : PenAt H p c cells n) (n1 : D ≠ p) (n2 : D ≠ c) : PenAt (upd H D o) p c cells n := by
  obtain ⟨a, g, h1, h2⟩ := h.ex
  exact ⟨⟨a, g, by rw [upd_ne n1.symm]; exact h1, h2⟩, by rw [upd_ne n2.symm]; exact h.cs, h.few, h.ne⟩
/-- what is told -/
def SS (d : PyData) : List Str := [d.shown, d.shown, (PyData.int 1000000000).shown, (PyData.int 1000000000).shown, (PyData.int (-1)).shown, (PyData.int (-1)).shown]
theorem ss_eq : ∀ d ∈ oddL, SeqAt.shaped (.list ((SS d).map PyData.str)) = true ∧ SeqAt.shaped (.list [.str d.shown, .str d.shown, .str (PyData.int 1000000000).shown, .str (PyData.int 1000000000).shown, .str "-1", .str "-1"]) = true ∧
    PyData.eqv (.list ((SS d).map PyData.str)) (.list [.str d.shown, .str d.shown, .str (PyData.int 1000000000).shown, .str (PyData.int 1000000000).shown, .str "-1", .str "-1"]) = true := by decide +kernel
/-- while the values are gone through -/
structure RrAt (L T p c : Addr) (cells : List Int) (n : Nat) (H : Hp) (v : V) (d : PyData) (H' : Hp) : Prop where
  odd : VAt L H' v d
  tup : H' T = some (.tup [v, .int 1000000000, .int (-1)])
  pen : PenAt H' p c cells n
  kp : Kept p H H'
  np : L ≠ p ∧ L ≠ c
  fr : H L = none
theorem RrAt.mono {L T p c : Addr} {cells : List Int} {n : Nat} {H H' H'' : Hp} {v : V} {d : PyData} (h : RrAt L T p c cells n H v d H') (s : Same H' H'') : RrAt L T p c cells n H v d H'' :=
  ⟨h.odd.mono s, s _ _ h.tup, h.pen.mono s (Nat.le_refl _), h.kp.trans (Kept.of s), h.np, h.fr⟩
theorem RrAt.push {L T p c : Addr} {cells : List Int} {n : Nat} {H H' : Hp} {v : V} {d : PyData} {xs : List V} {o : HO} (h : RrAt L T p c cells n H v d H') (hL : H' L = some (.lst xs)) : RrAt L T p c cells n H v d (upd H' L o) :=
  ⟨h.odd.upd hL, by rw [upd_ne (fun z => by have e := h.tup; rw [z, hL] at e; cases e)]; exact h.tup, pen_popR h.pen h.np.1 h.np.2, fun b u nb e => by rw [upd_ne (fun z => by rw [z, h.fr] at e; cases e)]; exact h.kp b u nb e, h.np, h.fr⟩
/-- the clause, at an error -/
theorem trk_go {P : Program} {w : World} {K : PySem.W.Frag} {mg : Str → Option Value} {base : Heap} {CK CH cB cO L dd : Addr} {D : Ends} {Wo : WX} {x0 x2 x3 x4 x5 : Option V} {H : Hp} {xs : List V} {v' : V} {d : PyData} (EA : ErA P w K mg base CK CH cB cO) (hL : H L = some (.lst xs)) (xl : xs.length < sizeLine)
    (xd : H dd = some (.xd [("value", v')])) (dv : Dv K H v' d) (hd : d ∈ oddL) (q : ∀ a, H a = none → D.nx [x0, some (.ref L), x2, x3, x4, none] (upd (upd H a (EXO cB a (some dd))) L (.lst (xs ++ [.str d.shown])))) :
    wTrk K (.ref cO) 5 (tsRR K cB) Wo D (.ref cB) (some dd) [x0, some (.ref L), x2, x3, x4, x5] H := by
  refine ⟨cB, rfl, true, EA.exm, fun _ a na => ?_, fun z => nomatch z⟩
  have s1 := same_new (o := EXO cB a (some dd)) na
  obtain ⟨_, f2, f3, f4⟩ := odd_f d hd
  refine ⟨.ref L, rfl, .inl ⟨rfl, _, SqL.of (s1 _ _ hL)⟩, .ref a, rfl, ⟨a, cB, dd, _, .ref cB, .ref cB, true, rfl, .own _, EA.ex, upd_same, .inr (s1 _ _ xd), EA.kit, true, rfl, iteT' ?_⟩⟩
  refine ⟨.ref a, rfl, a, cB, dd, _, v', rfl, EA.ex, EA.no, upd_same, .inr (s1 _ _ xd), rfl, v', d, rfl, Dv.mono s1 dv, f2, f3, f4, L, xs, _, rfl, rfl, s1 _ _ hL, xl, q a na⟩
section
variable {P : Program} {w : World} {K : PySem.W.Frag} {mg : Str → Option Value} {base : Heap} {CK CH cB cO fIt : Addr}
theorem scRR : FnScope ["well", "told", "odd", "value", "way", "error"] ["well"] (defScope sRR) := ⟨rfl, rfl, rfl, by decide +kernel, rfl, by decide +kernel, by decide +kernel⟩
theorem ok_rr {f : Addr} {fd : FuncData} (F : Fun K "_law_refused_right" "_law_refused_right" sRR f fd) (T : B1 mg) (hmd : ModsD base) (HF : HoF P w K mg base CK CH cB fIt) (EA : ErA P w K mg base CK CH cB cO) (one : Cal P w K mg base "_law_one" 2 ["well", "some"] spOne) : FnG P w K mg base CX0 13 f fd ["well"] spYes := by
  obtain ⟨fO, dO, gO, GO, kO, bO⟩ := one.ex
  obtain ⟨fHI, dHI, MKH, GHI, bHI⟩ := EA.ini
  obtain ⟨fHK, dHK, MHK, GHK, bHK⟩ := HF.hk
  have AH := HF.AH
  have gOE := EA.gO
  have GHI0 := KZ.FnOk.x0 GHI
  refine okG F scRR (fun vs H Q E h => ?_) (fun cdv A' outer s H vs Q E hgd hr h => ?_)
  · obtain ⟨p, c, cells, n, rfl, _⟩ := h
    rfl
  · obtain ⟨p, c, cells, n, rfl, pen, hn, q⟩ := h
    have hr8 : Room 8 _ := hr.mono (by decide)
    have hr7 : Room 7 _ := hr.mono (by decide)
    have hr2 : Room 2 _ := hr.mono (by decide)
    refine ⟨_, (pss_cons (ps_set (i := 1) scRR.nd rfl (Or.inl rfl) (pe_lst pa_nil))
(pss_cons (ps_set (i := 2) scRR.nd rfl (Or.inl rfl) (pe_call GO hr2 (by rfl) gO kO bO .nil pass0 (pa_cons (pv 0) (pa_cons (pe_lst (pa_cons (pe_un un_neg pe_int) (pa_cons (pe_op op_pow pe_int pe_int) (pa_cons pe_non (pa_cons pe_bl (pa_cons pe_str (pa_cons (pe_tup (pa_cons pe_int pa_nil)) (pa_cons (pe_lst (pa_cons pe_int pa_nil)) pa_nil)))))))) pa_nil))))
(pss_cons (ps_for PassesOwn.never rfl (pi_tup (pe_tup (pa_cons (pv 2) (pa_cons (pe_op op_pow pe_int pe_int) (pa_cons (pe_un un_neg pe_int) pa_nil))))) (pg_name (i := 3) scRR.nd rfl (Or.inl rfl))
(pss_one (ps_for PassesOwn.never rfl (pi_range1 (by rfl) T.range (pa_cons pe_int pa_nil)) (pg_name (i := 4) scRR.nd rfl (Or.inl rfl))
(pss_one (ps_try_trk (c := .ref cO) (i := 5) (tb := tbRR K CK CH cB) (ts := tsRR K cB) rfl rfl rfl scRR.nd rfl rfl ⟨rfl, rfl, .inl gOE⟩ LamX.takes0 ?hb ?hsu)))))
(pss_one (ps_ret (pe_cmpR (op_eqD hr.units) (pv 1) (pe_lst (pa_cons (pe_callB (call_reprD hgd hr.units hmd) (by rfl) T.repr (by decide +kernel) (pa_cons (pv 2) pa_nil)) (pa_cons (pe_callB (call_reprD hgd hr.units hmd) (by rfl) T.repr (by decide +kernel) (pa_cons (pv 2) pa_nil)) (pa_cons (pe_callB (call_reprD hgd hr.units hmd) (by rfl) T.repr (by decide +kernel) (pa_cons (pe_op op_pow pe_int pe_int) pa_nil)) (pa_cons (pe_callB (call_reprD hgd hr.units hmd) (by rfl) T.repr (by decide +kernel) (pa_cons (pe_op op_pow pe_int pe_int) pa_nil)) (pa_cons pe_str (pa_cons pe_str pa_nil))))))) (nomark _))))))), ?_⟩
    case hb => exact fun W pn xe tk _ => pss_cons (ps_if (pt_cmpR op_eq (pv 4) pe_int (nomark _)) (pss_one (ps_expr (pe_makeW MKH GHI hr8 (by rfl) AH.g bHI .nil tk (pa_cons (pv 3) pa_nil)))) (pss_one (ps_expr (pe_methW (pe_make MKH GHI0 hr8 (by rfl) AH.g bHI .nil pass0 (pa_cons pe_int pa_nil)) AH.cl MHK GHK hr7 bHK .nil tk (pa_cons (pv 3) pa_nil))))) (pss_one (ps_expr (pe_bm PySem.F.plainAttrs_list PySem.F.slot_list_append PySem.F.type_list_append mt_append (pv 1) (pa_cons pe_non pa_nil))))
    case hsu => exact fun a pn => pss_one (ps_expr (pe_bm PySem.F.plainAttrs_list PySem.F.slot_list_append PySem.F.type_list_append mt_append (pv 1) (pa_cons (pe_ifExp (pt_val (pe_callB call_isX (by rfl) T.isi (by decide +kernel) (pa_cons (pv 5) (pa_cons (pe_glob (v := .ref cB) (by rfl) EA.gB rfl) pa_nil)))) (pe_callB (call_reprD hgd hr.units hmd) (by rfl) T.repr (by decide +kernel) (pa_cons (pe_ef (pv 5)) pa_nil)) pe_str) pa_nil)))
    refine ⟨Nat.zero_le _, fun L hL0 => ?_⟩
    have nL := pen.nn hL0
    have hHL : H L = none := hL0
    have w0 := same_new (o := .lst []) hL0
    have eL : (upd H L (.lst [])) L = some (.lst []) := upd_same
    generalize upd H L (.lst []) = H1 at w0 eL ⊢
    dsimp only [gName]
    refine ⟨.ref p, rfl, 1, rfl, 10, 9, rfl, rfl, (pow_b (x := 10) (b := 9) (by decide) (by decide)).mpr (by decide), by show 1 ≤ sizeLine; decide, fun T0 hT0 => ⟨by show 1 ≤ sizeLine; decide, fun q5 hq5 => ⟨by show 7 ≤ sizeLine; decide, fun LL hLL => ?_⟩⟩⟩
    have w1 := same_new (o := .tup [.int 0]) hT0
    have e1 : (upd H1 T0 (.tup [.int 0])) T0 = some (.tup [.int 0]) := upd_same
    have n5 : q5 ≠ L := fun z => by
      rw [z, w1 _ _ eL] at hq5
      cases hq5
    generalize upd H1 T0 (.tup [.int 0]) = H2 at w1 e1 hq5 hLL ⊢
    have w2 := same_new (o := .lst [.int 5]) hq5
    have e2 : (upd H2 q5 (.lst [.int 5])) q5 = some (.lst [.int 5]) := upd_same
    generalize upd H2 q5 (.lst [.int 5]) = H3 at w2 e2 hLL ⊢
    have e9 : (10 : Int) ^ (9 : Int).toNat = 1000000000 := by decide
    have w3 := same_new (o := .lst [.int (-1), .int (10 ^ (9 : Int).toNat), .non, .bl true, .str "0", .ref T0, .ref q5]) hLL
    have w03 := w0.trans (w1.trans (w2.trans w3))
    have pen3 := pen.mono (w0.trans (w1.trans w2)) (Nat.le_refl _)
    refine ⟨p, c, LL, cells, n, _, rfl, pen3.mono w3 (Nat.le_refl _), by omega, upd_same, (pen3.nn hLL).1, by show 0 < 7; decide, by show 7 ≤ 100; decide, fun i x H4 hx pen4 kp4 => ?_⟩
    have nT : T0 ≠ p := fun z => by
      obtain ⟨_, _, hp, _⟩ := pen3.ex
      rw [← z, w2 _ _ e1] at hp
      cases hp
    have n5p : q5 ≠ p := (pen.mono (w0.trans w1) (Nat.le_refl _)).nn hq5 |>.1
    have f1 : H4 T0 = some (.tup [.int 0]) := kp4 _ _ nT (w3 _ _ (w2 _ _ e1))
    have f2 : H4 q5 = some (.lst [.int 5]) := kp4 _ _ n5p (w3 _ _ e2)
    have f3 : H4 L = some (.lst []) := kp4 _ _ nL.1 (w3 _ _ (w2 _ _ (w1 _ _ eL)))
    obtain ⟨d, hd, va⟩ : ∃ d, d ∈ oddL ∧ VAt L H4 x d := by
      match i, hx with
      | 0, hx => cases hx; exact ⟨.int (-1), List.mem_of_getElem? (i := 0) rfl, rfl⟩
      | 1, hx => cases hx; exact ⟨.int 1000000000, List.mem_of_getElem? (i := 1) rfl, congrArg V.int e9⟩
      | 2, hx => cases hx; exact ⟨.none, List.mem_of_getElem? (i := 2) rfl, rfl⟩
      | 3, hx => cases hx; exact ⟨.bool true, List.mem_of_getElem? (i := 3) rfl, rfl⟩
      | 4, hx => cases hx; exact ⟨.str "0", List.mem_of_getElem? (i := 4) rfl, rfl⟩
      | 5, hx => cases hx; exact ⟨.tuple [.int 0], List.mem_of_getElem? (i := 5) rfl, rfl, T0, rfl, f1⟩
      | 6, hx => cases hx; exact ⟨.list [.int 5], List.mem_of_getElem? (i := 6) rfl, rfl, q5, rfl, n5, f2⟩
    have kp := (Kept.of w03).trans kp4
    clear hx f1 f2 nT n5p w0 w1 w2 w3 w03 e1 e2 pen3 kp4 n5 hT0 hq5 hLL eL
    dsimp only [gName]
    refine ⟨x, rfl, 10, 9, rfl, rfl, (pow_b (x := 10) (b := 9) (by decide) (by decide)).mpr (by decide), 1, rfl, by show 3 ≤ sizeLine; decide, fun TT hTT => ?_⟩
    have s5 := same_new (o := .tup [x, .int (10 ^ (9 : Int).toNat), .int (-1)]) hTT
    have r5 : RrAt L TT p c cells (n + 900) H x d (upd H4 TT (.tup [x, .int (10 ^ (9 : Int).toNat), .int (-1)])) := ⟨va.mono s5, by rw [e9]; exact upd_same, pen4.mono s5 (by omega), kp.trans (Kept.of s5), nL, hHL⟩
    have f5 := s5 _ _ f3
    generalize upd H4 TT (.tup [x, .int (10 ^ (9 : Int).toNat), .int (-1)]) = H5 at r5 f5 ⊢
    clear s5 hTT va pen4 kp f3
    refine ⟨TT, rfl, ⟨_, SqT.of r5.tup⟩, ?_⟩
    refine for_it (walk_tup (K := K) (a := TT) (xs := [x, .int 1000000000, .int (-1)])) (fun i σ H' => (∃ x3 x4 x5, σ = [some (.ref p), some (.ref L), some x, x3, x4, x5]) ∧ H' L = some (.lst (((SS d).take (2 * i)).map V.str)) ∧ RrAt L TT p c cells (n + 900) H x d H')
      ⟨⟨_, _, _, rfl⟩, f5, r5⟩ (fun i σ H' _ z => SqT.of z.2.2.tup) ?_ ?_
    · rintro i y _ H6 H7 hi ⟨⟨x3, x4, x5, rfl⟩, c1, c2⟩ ⟨rfl, hy⟩
      obtain ⟨e, he, ve, hS⟩ : ∃ e, e ∈ oddL ∧ (∀ H', RrAt L TT p c cells (n + 900) H x d H' → VAt L H' y e) ∧ ∀ j, j < 2 → (SS d)[2 * i + j]? = some e.shown := by
        have two : ∀ {P : Nat → Prop}, P 0 → P 1 → ∀ j, j < 2 → P j := fun h0 h1 j hj => by
          match j, hj with
          | 0, _ => exact h0
          | 1, _ => exact h1
        match i, hy with
        | 0, hy => cases hy; exact ⟨d, hd, fun _ h => h.odd, two rfl rfl⟩
        | 1, hy => cases hy; exact ⟨.int 1000000000, List.mem_of_getElem? (i := 1) rfl, fun _ _ => rfl, two rfl rfl⟩
        | 2, hy => cases hy; exact ⟨.int (-1), List.mem_of_getElem? (i := 0) rfl, fun _ _ => rfl, two rfl rfl⟩
      obtain ⟨bad, _, _, _⟩ := odd_f e he
      have cp := odd_cp e he
      dsimp only [gName]
      refine ⟨2, rfl, by decide, by decide, ?_⟩
      refine for_it (tb := fun D σ H => tbRR K CK CH cB (wTrk K (.ref cO) 5 (tsRR K cB) (fun _ _ _ _ => False) D) D σ H) (walk_range (lo := 0) (n := 2)) (fun j σ H' => (∃ x4 x5, σ = [some (.ref p), some (.ref L), some x, some y, x4, x5]) ∧ H' L = some (.lst (((SS d).take (2 * i + j)).map V.str)) ∧ RrAt L TT p c cells (n + 900) H x d H') ⟨⟨_, _, rfl⟩, c1, c2⟩ (fun _ _ _ _ _ => True.intro) ?_ ?_
      · rintro j _ _ H8 H9 hj ⟨⟨x4, x5, rfl⟩, c3, c4⟩ ⟨rfl, rfl⟩
        have hSj := hS j hj
        have xl : (((SS d).take (2 * i + j)).map V.str).length < sizeLine := by
          rw [List.length_map, List.length_take, sizeLine_eq]
          exact Nat.lt_of_le_of_lt (Nat.min_le_right _ _) (by show 6 < _; decide)
        have push : (((SS d).take (2 * i + j)).map V.str) ++ [V.str e.shown] = ((SS d).take (2 * i + (j + 1))).map V.str := by
          rw [← Nat.add_assoc, List.take_add_one, hSj, List.map_append]
          rfl
        have fin : ∀ {H' : Hp} {a dd : Addr}, Same H9 H' → H' a = none → RrAt L TT p c cells (n + 900) H x d (upd (upd H' a (EXO cB a (some dd))) L (.lst ((((SS d).take (2 * i + j)).map V.str) ++ [V.str e.shown]))) ∧ (upd (upd H' a (EXO cB a (some dd))) L (.lst ((((SS d).take (2 * i + j)).map V.str) ++ [V.str e.shown]))) L = some (.lst (((SS d).take (2 * i + (j + 1))).map V.str)) := by
          intro H' a dd s na
          have s2 := s.trans (same_new (o := EXO cB a (some dd)) na)
          exact ⟨(c4.mono s2).push (s2 _ _ c3), by rw [upd_same, push]⟩
        have vy := ve _ c4
        dsimp only [gName]
        dsimp only [tbRR, tSeq, tIfS]
        refine ⟨_, rfl, ⟨rfl, _, rfl, ?_⟩⟩
        have no : ∀ i, e = .int i → ¬ inPl i := fun i z h => by rw [z, within_pl h] at bad; cases bad
        rcases (show j = 0 ∨ j = 1 by omega) with rfl | rfl
        · rw [show decide (V.int (0 + ((0 : Nat) : Int)) = V.int 0) = true by decide]
          refine iteT ⟨y, rfl, fun x1 dx hx hdx ne => ?_⟩
          have s0 := new2 (o := .own x1) (u := .ins CH dx []) hx hdx ne
          exact ⟨x1, y, e, dx, rfl, VAt.dv (VAt.off (vy.mono s0)), cp, upd_same, fun i' ei hi' => absurd hi' (no i' ei), fun _ v' dd H' sm xd dv => trk_go EA (sm _ _ (s0 _ _ c3)) xl xd dv he fun a na => ⟨⟨_, _, rfl⟩, (fin (s0.trans sm) na).2, (fin (s0.trans sm) na).1⟩⟩
        · rw [show decide (V.int (0 + ((1 : Nat) : Int)) = V.int 0) = false by decide]
          refine iteF fun x1 dx hx hdx ne => ?_
          have s0 := new2 (o := .own x1) (u := .ins CH dx []) hx hdx ne
          refine ⟨x1, .int 7, .int 7, dx, rfl, .int 7, trivial, upd_same, fun i' ei hi' dk2 H6 hdk2 bt g1 g2 => ?_, fun z => absurd (within_pl (i := 7) ⟨by decide, by decide⟩) (by rw [z]; exact Bool.false_ne_true)⟩
          cases ei
          have s6 : Same H9 H6 := fun b o z => bt b o (ne_of_none z hx) (s0 b o z)
          exact ⟨rfl, x1, dx, _, rfl, g1, rfl, y, rfl, x1, y, e, dk2, 7, -1, fun _ => .no, [], [], rfl, VAt.dv (VAt.off (vy.mono s6)), cp, ⟨⟨dx, g1⟩, .inl g2, .nil, fun k => ⟨(fun z => nomatch z), fun z => absurd rfl z⟩⟩, fun i' ei hi' => absurd hi' (no i' ei), fun _ v' dd H' sm xd dv => trk_go EA (sm _ _ (s6 _ _ c3)) xl xd dv he fun a na => ⟨⟨_, _, rfl⟩, (fin (s6.trans sm) na).2, (fin (s6.trans sm) na).1⟩⟩
      · rintro _ H8 ⟨⟨x4', x5', rfl⟩, c3, c4⟩
        exact ⟨⟨_, _, _, rfl⟩, c3, c4⟩
    rintro _ H6 ⟨⟨x3, x4, x5, rfl⟩, c1, c2⟩
    obtain ⟨_, f2, f3, f4⟩ := odd_f d hd
    obtain ⟨_, h2, h3, h4⟩ := odd_f (.int 1000000000) (List.mem_of_getElem? (i := 1) rfl)
    obtain ⟨z1, z2, z3⟩ := ss_eq d hd
    have dv := VAt.dv (K := K) c2.odd
    have pw := (pow_b (x := 10) (b := 9) (by decide) (by decide)).mpr (by decide)
    have dg : Dv K H6 (.int (10 ^ (9 : Int).toNat)) (.int 1000000000) := by rw [e9]; exact .int _
    have c1 : H6 L = some (.lst ((SS d).map V.str)) := c1
    refine ⟨.ref L, rfl, x, rfl, x, d, rfl, dv, f2, f3, f4, x, rfl, x, d, rfl, dv, f2, f3, f4, 10, 9, rfl, rfl, pw, _, _, rfl, dg, h2, h3, h4, 10, 9, rfl, rfl, pw, _, _, rfl, dg, h2, h3, h4, by show 6 ≤ sizeLine; decide, fun NN hNN => ?_⟩
    have sN := same_new (o := .lst [.str d.shown, .str d.shown, .str (PyData.int 1000000000).shown, .str (PyData.int 1000000000).shown, .str "-1", .str "-1"]) hNN
    refine ⟨.list ((SS d).map PyData.str), .list [.str d.shown, .str d.shown, .str (PyData.int 1000000000).shown, .str (PyData.int 1000000000).shown, .str "-1", .str "-1"], .lst (SqL.of (sN _ _ c1)) (cs_dp _), .lst (SqL.of upd_same) (.cons (.str _) (.cons (.str _) (.cons (.str _) (.cons (.str _) (.cons (.str _) (.cons (.str _) .nil)))))), z1, z2, ?_⟩
    rw [z3]
    have c3 := c2.mono sN
    exact q _ c3.pen c3.kp
end
end K27
end

section
set_option Elab.async false
set_option linter.all false
set_option maxRecDepth 100000
set_option maxHeartbeats 4000000
/-! an asking, made of a row -/
namespace K27
open PySem PySem.Spec L2 KZ
abbrev sMA : Stmt := top 36
theorem ini_go2 {K : PySem.W.Frag} {n : Nat} {H : Hp} {x dx C : Addr} {names : List Str} {vals : List V} {fvs : List FV} {Q : Hp → Prop} (hx : H x = none) (hdx : H dx = none) (ne : dx ≠ x) (hl : vals.length = names.length) (ok : ∀ fv ∈ fvs, FvOk K (n + 1) (offD H) fv) (fv : Fvs K (offD H) vals fvs)
    (k : ∀ H' N vals', Same H H' → Off H N → NoFrz N → Same N H' → H' x = some (.ins C dx (names.zip vals')) → Fvs K N vals' fvs → Q H') :
    spInitN (n + 1) K C names (.ref x :: vals) (upd (upd H dx (.own x)) x (.ins C dx [])) (fun v H2 => v = .non ∧ Q H2) E0 := by
  have s0 := new2 (o := .own x) (u := .ins C dx []) hx hdx ne
  exact ⟨x, dx, vals, fvs, offD H, rfl, hl, upd_same, ok, (offD_same H).trans s0, offD_nof H, (offD_same H).free hx, fv, fun vals' N H' off nf sm bt hx' fv' => ⟨rfl, k H' N vals' (fun b o e => bt b o (ne_of_none e hx) (s0 b o e)) (off_sub s0 off) nf sm hx' fv'⟩⟩
def spMA (K : PySem.W.Frag) (CA : Addr) : Sp := fun vs H Q _ => ∃ r vals fvs, vs = [.ref r] ∧ Sq K H r vals ∧ vals.length = 8 ∧ (∀ fv ∈ fvs, FvOk K 4 (offD H) fv) ∧ Fvs K (offD H) vals fvs ∧
  ∀ x dx H' N vals', Same H H' → Off H N → NoFrz N → Same N H' → H' x = some (.ins CA dx (aF.zip vals')) → Fvs K N vals' fvs → Q (.ref x) H'
section
variable {P : Program} {w : World} {K : PySem.W.Frag} {mg : Str → Option Value} {base : Heap} {CA : Addr}
theorem scMA : FnScope ["row"] ["row"] (defScope sMA) := ⟨rfl, rfl, rfl, by decide +kernel, rfl, by decide +kernel, by decide +kernel⟩
theorem ok_ma {f : Addr} {fd : FuncData} (F : Fun K "_law_made_asking" "_law_made_asking" sMA f fd) (A : ClsF K mg "Asking" CA aF) (M : MkC P w K mg base CA aF) : FnOk P w K mg base CX0 8 f fd ["row"] (spMA K CA) := by
  obtain ⟨fI, dI, MK, GI, bI⟩ := M.ex 3
  refine F.ok scMA (fun vs H Q E h => ?_) (fun cdv A' outer s H vs Q E hr h => ?_)
  · obtain ⟨r, vals, fvs, rfl, _⟩ := h
    rfl
  · obtain ⟨r, vals, fvs, rfl, hs, hl, ok, fv, q⟩ := h
    have hr7 : Room 7 _ := hr
    refine ⟨_, (pss_one (ps_ret (pe_make MK GI hr7 (by rfl) A.g bI .nil pass0 (pa_cons (pe_ix (ix_seqK K) (pv 0) pe_int (fun _ _ => rfl)) (pa_cons (pe_ix (ix_seqK K) (pv 0) pe_int (fun _ _ => rfl)) (pa_cons (pe_ix (ix_seqK K) (pv 0) pe_int (fun _ _ => rfl)) (pa_cons (pe_ix (ix_seqK K) (pv 0) pe_int (fun _ _ => rfl)) (pa_cons (pe_ix (ix_seqK K) (pv 0) pe_int (fun _ _ => rfl)) (pa_cons (pe_ix (ix_seqK K) (pv 0) pe_int (fun _ _ => rfl)) (pa_cons (pe_ix (ix_seqK K) (pv 0) pe_int (fun _ _ => rfl)) (pa_cons (pe_ix (ix_seqK K) (pv 0) pe_int (fun _ _ => rfl)) pa_nil))))))))))), ?_⟩
    obtain ⟨v0, v1, v2, v3, v4, v5, v6, v7, rfl⟩ : ∃ v0 v1 v2 v3 v4 v5 v6 v7, vals = [v0, v1, v2, v3, v4, v5, v6, v7] := by
      match vals, hl with
      | [v0, v1, v2, v3, v4, v5, v6, v7], _ => exact ⟨v0, v1, v2, v3, v4, v5, v6, v7, rfl⟩
    refine ⟨.ref r, rfl, hs.ix (at_nat (i := 0) rfl) ⟨.ref r, rfl, hs.ix (at_nat (i := 1) rfl) ⟨.ref r, rfl, hs.ix (at_nat (i := 2) rfl) ⟨.ref r, rfl, hs.ix (at_nat (i := 3) rfl) ⟨.ref r, rfl, hs.ix (at_nat (i := 4) rfl) ⟨.ref r, rfl, hs.ix (at_nat (i := 5) rfl) ⟨.ref r, rfl, hs.ix (at_nat (i := 6) rfl) ⟨.ref r, rfl, hs.ix (at_nat (i := 7) rfl) ?_⟩⟩⟩⟩⟩⟩⟩⟩
    intro x dx hx hdx ne
    exact ini_go2 hx hdx ne rfl ok fv fun H' N vals' s off nf sm hx' fv' => q x dx H' N vals' s off nf sm hx' fv'
end
end K27
end

section
set_option Elab.async false
set_option linter.all false
set_option maxRecDepth 100000
set_option maxHeartbeats 4000000
/-! the fields of an asking, compared -/
namespace K27
open PySem PySem.Spec L2 KZ
/-- [[1], {"a": 2}] -/
abbrev DD : PyData := .list [.list [.int 1], .dict [(.str "a", .int 2)]]
def ceq : PyData → PyData → Bool
  | .list _, .list _ => true
  | .list _, _ => false
  | _, .list _ => false
  | d, e => PyData.eqv d e
/-- a plain field -/
def PlD (d : PyData) : Prop := nod d = true ∧ SeqAt.shaped d = true ∧ (d = .none ∨ (∃ i, d = .int i) ∨ (∃ x, d = .str x) ∨ ∃ ds, d = .tuple ds)
/-- [[1], {"a": 2}] on the heap -/
def DDat (K : PySem.W.Frag) (H : Hp) (v : V) : Prop := ∃ a b c, v = .ref a ∧ SqL K H a [.ref b, .ref c] ∧ SqL K H b [.int 1] ∧ H c = some (.dK [(Sum.inr "a", .int 2)])
theorem DDat.mono {K : PySem.W.Frag} {H H' : Hp} {v : V} (s : Same H H') (h : DDat K H v) : DDat K H' v := let ⟨a, b, c, e, h1, h2, h3⟩ := h; ⟨a, b, c, e, s.seq h1, s.seq h2, s _ _ h3⟩
theorem DDat.of {K : PySem.W.Frag} {N : Hp} {v : V} (h : Dv K N v DD) (nf : NoFrz N) : DDat K N v := by
  cases h with
  | @lst a xs _ hs ha =>
    cases ha with
    | cons h1 ha =>
      cases ha with
      | cons h2 ha =>
        cases ha
        cases h1 with
        | @lst b ys _ hb hy =>
          cases hy with
          | cons y1 hy =>
            cases hy
            cases y1
            cases h2 with
            | @dic c kvs _ hc hk =>
              obtain ⟨l, rfl, hl⟩ := dks_a hk
              cases hl
              refine ⟨a, b, c, rfl, hs, hb, ?_⟩
              rcases hc with z | ⟨o, z⟩
              · exact z
              · exact absurd z (nf _ _ _)
theorem DDat.smd {K : PySem.W.Frag} {H : Hp} {v u : V} (h1 : DDat K H v) (h2 : DDat K H u) : Smd K H 60 v u := by
  obtain ⟨a, b, c, rfl, s1, s2, s3⟩ := h1
  obtain ⟨a', b', c', rfl, t1, t2, t3⟩ := h2
  refine .lst (n := 59) s1 t1 rfl fun j x y hx hy => ?_
  match j, hx, hy with
  | 0, hx, hy =>
    cases hx
    cases hy
    refine .lst (n := 58) s2 t2 rfl fun j x y hx hy => ?_
    match j, hx, hy with
    | 0, hx, hy => cases hx; cases hy; exact .int 1
  | 1, hx, hy =>
    cases hx
    cases hy
    exact .dic (n := 58) s3 t3 (.int 2)
/-- a field -/
def AFv (K : PySem.W.Frag) (H : Hp) (v : V) (d : PyData) : Prop := (d = DD ∧ DDat K H v) ∨ (PlD d ∧ Dp K H v d)
theorem PlD.nl {d : PyData} (h : PlD d) : ∀ ds, d ≠ .list ds := fun ds e => by
  subst e
  rcases h.2.2 with z | ⟨_, z⟩ | ⟨_, z⟩ | ⟨_, z⟩ <;> cases z
theorem PlD.noL {K : PySem.W.Frag} {H : Hp} {v : V} {d : PyData} (h : PlD d) (hv : Dp K H v d) : NoL K H v := by
  rcases h.2.2 with rfl | ⟨i, rfl⟩ | ⟨x, rfl⟩ | ⟨ds, rfl⟩
  · cases hv; exact .inl rfl
  · cases hv; exact .inr (.inl ⟨_, rfl⟩)
  · cases hv; exact .inr (.inr (.inl ⟨_, rfl⟩))
  · cases hv with
    | tup hs _ => exact .inr (.inr (.inr ⟨_, _, rfl, hs⟩))
theorem ceq_pl {d e : PyData} (h1 : ∀ ds, d ≠ .list ds) (h2 : ∀ ds, e ≠ .list ds) : ceq d e = PyData.eqv d e := by
  cases d with
  | list ds => exact absurd rfl (h1 ds)
  | _ =>
    cases e with
    | list es => exact absurd rfl (h2 es)
    | _ => rfl
theorem ceq_ll {ds : List PyData} {e : PyData} (h2 : ∀ ds, e ≠ .list ds) : ceq (.list ds) e = false ∧ ceq e (.list ds) = false := by
  cases e with
  | list es => exact absurd rfl (h2 es)
  | _ => exact ⟨rfl, rfl⟩
theorem ne_c {K : PySem.W.Frag} {H : Hp} {v u : V} {d e : PyData} (h1 : AFv K H v d) (h2 : AFv K H u e) : NeA K H v u (ceq d e) := by
  rcases h1 with ⟨rfl, h1⟩ | ⟨p1, h1⟩ <;> rcases h2 with ⟨rfl, h2⟩ | ⟨p2, h2⟩
  · have sm := DDat.smd h1 h2
    obtain ⟨a, b, c, rfl, s1, s2, s3⟩ := h1
    obtain ⟨a', b', c', rfl, t1, t2, t3⟩ := h2
    refine .lst s1 t1 rfl fun j x y hx hy => ?_
    match j, hx, hy with
    | 0, hx, hy =>
      cases hx
      cases hy
      refine .lst (n := 59) s2 t2 rfl fun j x y hx hy => ?_
      match j, hx, hy with
      | 0, hx, hy => cases hx; cases hy; exact .int 1
    | 1, hx, hy =>
      cases hx
      cases hy
      exact .dic (n := 59) s3 t3 (.int 2)
  · obtain ⟨a, b, c, rfl, s1, _⟩ := h1
    rw [(ceq_ll p2.nl).1]
    exact .noL s1 (p2.noL h2)
  · obtain ⟨a, b, c, rfl, s1, _⟩ := h2
    rw [(ceq_ll p1.nl).2]
    exact .noR s1 (p1.noL h1)
  · rw [ceq_pl p1.nl p2.nl]
    exact .dat h1 h2 p1.2.1 p2.2.1
def ceqs : List PyData → List PyData → Bool
  | d :: ds, e :: es => ceq d e && ceqs ds es
  | _, _ => true
theorem rae_of {K : PySem.W.Frag} {H : Hp} {vs us : List V} {ds es : List PyData} (h1 : Paired (AFv K H) vs ds) (h2 : Paired (AFv K H) us es) (l1 : ds.length = 8) (l2 : es.length = 8) : rAE K H vs us (ceqs ds es) := by
  match ds, l1, es, l2 with
  | [d1, d2, d3, d4, d5, d6, d7, d8], _, [e1, e2, e3, e4, e5, e6, e7, e8], _ =>
    cases h1 with | cons a1 h1 =>
    cases h1 with | cons a2 h1 =>
    cases h1 with | cons a3 h1 =>
    cases h1 with | cons a4 h1 =>
    cases h1 with | cons a5 h1 =>
    cases h1 with | cons a6 h1 =>
    cases h1 with | cons a7 h1 =>
    cases h1 with | cons a8 h1 =>
    cases h1
    cases h2 with | cons b1 h2 =>
    cases h2 with | cons b2 h2 =>
    cases h2 with | cons b3 h2 =>
    cases h2 with | cons b4 h2 =>
    cases h2 with | cons b5 h2 =>
    cases h2 with | cons b6 h2 =>
    cases h2 with | cons b7 h2 =>
    cases h2 with | cons b8 h2 =>
    cases h2
    refine ⟨_, _, _, _, _, _, _, _, _, _, _, _, _, _, _, _, _, _, _, _, _, _, _, _, rfl, rfl, ne_c a1 b1, ne_c a2 b2, ne_c a3 b3, ne_c a4 b4, ne_c a5 b5, ne_c a6 b6, (ne_c a7 b7).eqA, (ne_c a8 b8).eqA, ?_⟩
    show (ceq d1 e1 && (ceq d2 e2 && (ceq d3 e3 && (ceq d4 e4 && (ceq d5 e5 && (ceq d6 e6 && (ceq d7 e7 && (ceq d8 e8 && true)))))))) = _
    rw [Bool.and_true]
/-- an asking of such fields; ex: what may be changed -/
def AsAt (K : PySem.W.Frag) (CA : Addr) (ex : Addr → Prop) (H : Hp) (x : Addr) (ds : List PyData) : Prop :=
  ∃ dx N vals, H x = some (.ins CA dx (aF.zip vals)) ∧ vals.length = 8 ∧ ¬ ex x ∧ Same N H ∧ NoFrz N ∧ (∀ e, ex e → N e = none) ∧ Dvs K N vals ds
/-- all but such stays -/
def KX (ex : Addr → Prop) (H H' : Hp) : Prop := ∀ b o, ¬ ex b → H b = some o → H' b = some o
theorem KX.trans {ex : Addr → Prop} {H H1 H2 : Hp} (a : KX ex H H1) (b : KX ex H1 H2) : KX ex H H2 := fun x o n e => b x o n (a x o n e)
theorem KX.of {ex : Addr → Prop} {H H1 : Hp} (a : Same H H1) : KX ex H H1 := fun x o _ e => a x o e
theorem AsAt.keep {K : PySem.W.Frag} {CA : Addr} {ex : Addr → Prop} {H H' : Hp} {x : Addr} {ds : List PyData} (k : KX ex H H') (h : AsAt K CA ex H x ds) : AsAt K CA ex H' x ds := by
  obtain ⟨dx, N, vals, h1, h2, h3, h4, h5, h6, h7⟩ := h
  exact ⟨dx, N, vals, k _ _ h3 h1, h2, h3, fun b o e => k _ _ (fun z => by rw [h6 b z] at e; cases e) (h4 _ _ e), h5, h6, h7⟩
/-- the data that a field may be -/
def AFd (d : PyData) : Prop := d = DD ∨ PlD d
theorem afv_of {K : PySem.W.Frag} {N H : Hp} (s : Same N H) (nf : NoFrz N) : ∀ {vs : List V} {ds : List PyData}, Dvs K N vs ds → (∀ d ∈ ds, AFd d) → Paired (AFv K H) vs ds
  | _, _, .nil, _ => .nil
  | _, _, .cons h t, ok => by
    refine .cons ?_ (afv_of s nf t fun d m => ok d (List.mem_cons_of_mem _ m))
    rcases ok _ List.mem_cons_self with rfl | p
    · exact .inl ⟨rfl, (DDat.of h nf).mono s⟩
    · exact .inr ⟨p, Dv.dp (Dv.mono s h) p.1⟩
/-- == of two askings -/
theorem as_eq {K : PySem.W.Frag} {CA : Addr} {ex : Addr → Prop} {H : Hp} {x y : Addr} {ds es : List PyData} {Q : VK} {E : XK} (h1 : AsAt K CA ex H x ds) (h2 : AsAt K CA ex H y es) (o1 : ∀ d ∈ ds, AFd d) (o2 : ∀ d ∈ es, AFd d) (l1 : ds.length = 8) (l2 : es.length = 8)
    (q : Q (.bl (ceqs ds es)) H) : spEqC K CA aF (rAE K) [.ref x, .ref y] H Q E := by
  obtain ⟨dx, N, vals, a1, a2, _, a4, a5, _, a7⟩ := h1
  obtain ⟨dy, M, us, b1, b2, _, b4, b5, _, b7⟩ := h2
  exact ⟨x, .ref y, dx, vals, rfl, a1, a2, .inl ⟨y, dy, us, _, rfl, b1, b2, rae_of (afv_of a4 a5 a7 o1) (afv_of b4 b5 b7 o2) l1 l2, q⟩⟩
theorem ceq_refl {d : PyData} (h : AFd d) : ceq d d = true := by
  rcases h with rfl | p
  · rfl
  · rw [ceq_pl p.nl p.nl]
    exact PySem.SeqAt.eqv_refl _ (SeqAt.canLay_of_shaped p.2.1)
theorem ceqs_refl : ∀ {ds : List PyData}, (∀ d ∈ ds, AFd d) → ceqs ds ds = true
  | [], _ => rfl
  | d :: ds, h => by
    show (ceq d d && ceqs ds ds) = true
    rw [ceq_refl (h d List.mem_cons_self), ceqs_refl fun e m => h e (List.mem_cons_of_mem _ m)]
    rfl
theorem ceqs_no : ∀ {ds es : List PyData} {k : Nat} {d e : PyData}, ds[k]? = some d → es[k]? = some e → ceq d e = false → ceqs ds es = false
  | [], _, _, _, _, h, _, _ => by simp at h
  | _ :: _, [], _, _, _, _, h, _ => by simp at h
  | d :: ds, e :: es, 0, d', e', h1, h2, h3 => by
    cases h1
    cases h2
    show (ceq d e && ceqs ds es) = false
    rw [h3]
    rfl
  | d :: ds, e :: es, k + 1, d', e', h1, h2, h3 => by
    show (ceq d e && ceqs ds es) = false
    rw [ceqs_no (k := k) (by simpa using h1) (by simpa using h2) h3, Bool.and_false]
/-- what is put in, and what stands first -/
def oddA : List PyData := [DD, .str "x", .int (-1), .tuple [.int 9]]
def FstD (d : PyData) : Prop := (∃ i : Int, 0 ≤ i ∧ d = .int i) ∨ d = .str "put" ∨ d = .str "get" ∨ d = .none ∨ d = .tuple [.int 3, .int 5]
theorem fst_af {d : PyData} (h : FstD d) : AFd d := by
  rcases h with ⟨i, _, rfl⟩ | rfl | rfl | rfl | rfl
  · exact .inr ⟨rfl, rfl, .inr (.inl ⟨_, rfl⟩)⟩
  · exact .inr ⟨rfl, by decide +kernel, .inr (.inr (.inl ⟨_, rfl⟩))⟩
  · exact .inr ⟨rfl, by decide +kernel, .inr (.inr (.inl ⟨_, rfl⟩))⟩
  · exact .inr ⟨rfl, rfl, .inl rfl⟩
  · exact .inr ⟨rfl, by decide +kernel, .inr (.inr (.inr ⟨_, rfl⟩))⟩
theorem odd_af : ∀ d ∈ oddA, AFd d := by
  intro d m
  simp only [oddA, List.mem_cons, List.not_mem_nil, or_false] at m
  rcases m with rfl | rfl | rfl | rfl
  · exact .inl rfl
  · exact .inr ⟨rfl, by decide +kernel, .inr (.inr (.inl ⟨_, rfl⟩))⟩
  · exact .inr ⟨rfl, rfl, .inr (.inl ⟨_, rfl⟩)⟩
  · exact .inr ⟨rfl, by decide +kernel, .inr (.inr (.inr ⟨_, rfl⟩))⟩
theorem odd_ne {o d : PyData} (m : o ∈ oddA) (h : FstD d) : ceq o d = false ∧ ceq d o = false := by
  simp only [oddA, List.mem_cons, List.not_mem_nil, or_false] at m
  rcases m with rfl | rfl | rfl | rfl <;> rcases h with ⟨i, hi, rfl⟩ | rfl | rfl | rfl | rfl <;> first
    | exact ⟨rfl, rfl⟩
    | exact ⟨by decide +kernel, by decide +kernel⟩
    | exact ⟨(beq_eq_false_iff_ne (a := (-1 : Int)) (b := i)).mpr (by omega), (beq_eq_false_iff_ne (a := i) (b := (-1 : Int))).mpr (by omega)⟩
/-- the papers: the first, and those that differ from it in one part -/
def Dk (D0 : List PyData) (os : Nat → PyData) : Nat → List PyData
  | 0 => D0
  | k + 1 => D0.set k (os k)
theorem dk_len {D0 : List PyData} {os : Nat → PyData} {i : Nat} : (Dk D0 os i).length = D0.length := by
  cases i with
  | zero => rfl
  | succ k => exact List.length_set
theorem dk_af {D0 : List PyData} {os : Nat → PyData} (h0 : ∀ d ∈ D0, FstD d) (ho : ∀ k, os k ∈ oddA) : ∀ i, ∀ d ∈ Dk D0 os i, AFd d
  | 0, d, m => fst_af (h0 d m)
  | k + 1, d, m => by
    rcases List.mem_or_eq_of_mem_set m with m | rfl
    · exact fst_af (h0 d m)
    · exact odd_af _ (ho k)
theorem dk_eq {D0 : List PyData} {os : Nat → PyData} (h0 : ∀ d ∈ D0, FstD d) (ho : ∀ k, os k ∈ oddA) {i j : Nat} (hi : i ≤ D0.length) (hj : j ≤ D0.length) : ceqs (Dk D0 os i) (Dk D0 os j) = decide (i = j) := by
  by_cases e : i = j
  · subst e
    rw [decide_eq_true rfl]
    exact ceqs_refl (dk_af h0 ho i)
  · rw [decide_eq_false e]
    have at_ : ∀ {k j : Nat}, k < D0.length → k + 1 ≠ j → ∃ d, FstD d ∧ (Dk D0 os j)[k]? = some d := by
      intro k j hk ne
      refine ⟨D0[k], h0 _ (List.getElem_mem hk), ?_⟩
      cases j with
      | zero => exact List.getElem?_eq_getElem hk
      | succ j =>
        show (D0.set j (os j))[k]? = _
        rw [List.getElem?_set_ne (by omega), List.getElem?_eq_getElem hk]
    have me : ∀ {k : Nat}, k < D0.length → (Dk D0 os (k + 1))[k]? = some (os k) := fun {k} hk => by
      show (D0.set k (os k))[k]? = _
      rw [List.getElem?_set_self hk]
    cases i with
    | zero =>
      cases j with
      | zero => exact absurd rfl e
      | succ j =>
        obtain ⟨d, hd, hk⟩ := at_ (k := j) (j := 0) (by omega) (by omega)
        exact ceqs_no hk (me (by omega)) (odd_ne (ho j) hd).2
    | succ i =>
      obtain ⟨d, hd, hk⟩ := at_ (k := i) (j := j) (by omega) (by omega)
      exact ceqs_no (me (by omega)) hk (odd_ne (ho i) hd).1
theorem fst_cp {d : PyData} (h : FstD d) : Cp 4 d := by
  rcases h with ⟨i, _, rfl⟩ | rfl | rfl | rfl | rfl
  · exact True.intro
  · exact True.intro
  · exact True.intro
  · exact True.intro
  · exact ⟨by show 2 ≤ 2000; decide, fun d m => by
      simp only [List.mem_cons, List.not_mem_nil, or_false] at m
      rcases m with rfl | rfl <;> exact True.intro⟩
theorem dd_cp : Cp 4 DD := ⟨by show 2 ≤ 2000; decide, fun d m => by
  simp only [List.mem_cons, List.not_mem_nil, or_false] at m
  rcases m with rfl | rfl
  · exact ⟨by show 1 ≤ 2000; decide, fun d m => by
      simp only [List.mem_cons, List.not_mem_nil, or_false] at m
      rw [m]
      exact True.intro⟩
  · exact ⟨_, rfl, rfl, True.intro⟩⟩
theorem odd_cpA : ∀ d ∈ oddA, Cp 4 d := by
  intro d m
  simp only [oddA, List.mem_cons, List.not_mem_nil, or_false] at m
  rcases m with rfl | rfl | rfl | rfl
  · exact dd_cp
  · exact True.intro
  · exact True.intro
  · exact ⟨by show 1 ≤ 2000; decide, fun d m => by
      simp only [List.mem_cons, List.not_mem_nil, or_false] at m
      rw [m]
      exact True.intro⟩
theorem dvs_fvs {K : PySem.W.Frag} {H : Hp} : ∀ {vs : List V} {ds : List PyData}, Dvs K H vs ds → Fvs K H vs (ds.map FV.dat)
  | _, _, .nil => .nil
  | _, _, .cons h t => .cons h (dvs_fvs t)
theorem fvs_dvs {K : PySem.W.Frag} {H : Hp} : ∀ {ds : List PyData} {vs : List V}, Fvs K H vs (ds.map FV.dat) → Dvs K H vs ds
  | [], _, h => by cases h; exact .nil
  | d :: ds, _, h => by
    cases h with
    | cons a t => exact .cons a (fvs_dvs t)
theorem dvs_set {K : PySem.W.Frag} {H : Hp} {v : V} {d : PyData} : ∀ {vs : List V} {ds : List PyData} (i : Nat), Dvs K H vs ds → Dv K H v d → Dvs K H (vs.set i v) (ds.set i d)
  | _, _, _, .nil, _ => .nil
  | _, _, 0, .cons _ t, h => .cons h t
  | _, _, i + 1, .cons a t, h => .cons a (dvs_set i t h)
theorem ma_go {K : PySem.W.Frag} {CA r : Addr} {ex : Addr → Prop} {H : Hp} {vals : List V} {ds : List PyData} {Q : VK} {E : XK} (hs : Sq K H r vals) (hl : ds.length = 8) (dv : Dvs K (offD H) vals ds) (cp : ∀ d ∈ ds, Cp 4 d) (hex : ∀ e, ex e → ∃ xs, H e = some (.lst xs))
    (q : ∀ x H', Same H H' → AsAt K CA ex H' x ds → Q (.ref x) H') : spMA K CA [.ref r] H Q E := by
  refine ⟨r, vals, ds.map FV.dat, rfl, hs, (Dvs.len dv).trans hl, fun fv m => ?_, dvs_fvs dv, fun x dx H' N vals' s off nf sm hx fv => q x H' s ⟨dx, N, vals', hx, ?_, fun z => ?_, sm, nf, fun e z => ?_, fvs_dvs fv⟩⟩
  · obtain ⟨d, md, e⟩ := List.mem_map.mp m
    rw [← e]
    exact cp d md
  · rw [show vals'.length = (ds.map FV.dat).length from Paired.length fv, List.length_map, hl]
  · obtain ⟨xs, e⟩ := hex x z
    have e := s _ _ e
    rw [hx] at e
    cases e
  · obtain ⟨xs, e2⟩ := hex e z
    exact off e (by rw [e2]; exact fun y => nomatch y)
theorem ini_as {K : PySem.W.Frag} {CA x dx : Addr} {ex : Addr → Prop} {H : Hp} {vals : List V} {ds : List PyData} {Q : Hp → Prop} (hx : H x = none) (hdx : H dx = none) (ne : dx ≠ x) (hl : ds.length = 8) (dv : Dvs K (offD H) vals ds) (cp : ∀ d ∈ ds, Cp 4 d) (hex : ∀ e, ex e → ∃ xs, H e = some (.lst xs))
    (q : ∀ H', Same H H' → AsAt K CA ex H' x ds → Q H') : spInitN 4 K CA aF (.ref x :: vals) (upd (upd H dx (.own x)) x (.ins CA dx [])) (fun v H2 => v = .non ∧ Q H2) E0 := by
  refine ini_go2 (n := 3) (fvs := ds.map FV.dat) hx hdx ne ((Dvs.len dv).trans hl) (fun fv m => ?_) (dvs_fvs dv) fun H' N vals' s off nf sm hx' fv => q H' s ⟨dx, N, vals', hx', ?_, fun z => ?_, sm, nf, fun e z => ?_, fvs_dvs fv⟩
  · obtain ⟨d, md, e⟩ := List.mem_map.mp m
    rw [← e]
    exact cp d md
  · rw [show vals'.length = (ds.map FV.dat).length from Paired.length fv, List.length_map, hl]
  · obtain ⟨xs, e⟩ := hex x z
    rw [hx] at e
    cases e
  · obtain ⟨xs, e2⟩ := hex e z
    exact off e (by rw [e2]; exact fun y => nomatch y)
theorem AsAt.ins {K : PySem.W.Frag} {CA : Addr} {ex : Addr → Prop} {H : Hp} {x : Addr} {ds : List PyData} (h : AsAt K CA ex H x ds) : ∃ dx vals, H x = some (.ins CA dx (aF.zip vals)) ∧ vals.length = 8 := let ⟨dx, _, vals, h1, h2, _⟩ := h; ⟨dx, vals, h1, h2⟩
theorem AsAt.less {K : PySem.W.Frag} {CA : Addr} {ex ey : Addr → Prop} {H : Hp} {x : Addr} {ds : List PyData} (h : AsAt K CA ex H x ds) (l : ∀ b, ey b → ex b) : AsAt K CA ey H x ds := by
  obtain ⟨dx, N, vals, h1, h2, h3, h4, h5, h6, h7⟩ := h
  exact ⟨dx, N, vals, h1, h2, fun z => h3 (l _ z), h4, h5, fun e z => h6 e (l _ z), h7⟩
theorem AsAt.dds {K : PySem.W.Frag} {CA : Addr} {ex : Addr → Prop} {H : Hp} {x : Addr} (h : AsAt K CA ex H x (List.replicate 8 DD)) : ∃ dx v0 v1 v2 v3 v4 v5 v6 v7, H x = some (.ins CA dx (aF.zip [v0, v1, v2, v3, v4, v5, v6, v7])) ∧ ∀ v ∈ [v0, v1, v2, v3, v4, v5, v6, v7], DDat K H v := by
  obtain ⟨dx, N, vals, h1, h2, _, h4, h5, _, h7⟩ := h
  match vals, h2, h1, h7 with
  | [v0, v1, v2, v3, v4, v5, v6, v7], _, h1, h7 =>
    refine ⟨dx, v0, v1, v2, v3, v4, v5, v6, v7, h1, fun v m => ?_⟩
    obtain ⟨j, hj, e⟩ := List.getElem_of_mem m
    obtain ⟨d, e2, dv⟩ := Dvs.get h7 (show [v0, v1, v2, v3, v4, v5, v6, v7][j]? = some v by rw [List.getElem?_eq_getElem hj, e])
    rw [List.eq_of_mem_replicate (List.mem_of_getElem? e2)] at dv
    exact (DDat.of dv h5).mono h4
theorem rep_dv {K : PySem.W.Frag} {H : Hp} {v : V} {d : PyData} (h : Dv K H v d) : ∀ n, Dvs K H (List.replicate n v) (List.replicate n d)
  | 0 => .nil
  | n + 1 => .cons h (rep_dv h n)
theorem AsAt.ext {K : PySem.W.Frag} {CA L x : Addr} {ex : Addr → Prop} {H : Hp} {ds : List PyData} (hL : H L = none) (h : AsAt K CA ex H x ds) : AsAt K CA (fun b => ex b ∨ b = L) H x ds := by
  obtain ⟨dx, N, vals, h1, h2, h3, h4, h5, h6, h7⟩ := h
  exact ⟨dx, N, vals, h1, h2, (fun z => z.elim h3 fun y => by rw [y, hL] at h1; cases h1), h4, h5, (fun e z => z.elim (h6 e) fun y => by rw [y]; exact h4.free hL), h7⟩
theorem cut_take {xs : List V} {f : Nat} (h : f ≤ xs.length) : cutV xs none (some (f : Int)) = xs.take f := by
  unfold cutV
  rw [HT.sIx_none, HT.sIx_nat, List.drop_zero, Nat.sub_zero, Nat.min_eq_left h]
theorem cut_drop {xs : List V} {f : Nat} (h : f ≤ xs.length) : cutV xs (some (f : Int)) none = xs.drop f := by
  unfold cutV
  rw [HT.sIx_none, HT.sIx_nat, Nat.min_eq_left h]
  exact List.take_of_length_le (by rw [List.length_drop]; exact Nat.le_refl _)
theorem pen_popA {H : Hp} {p c D : Addr} {cells : List Int} {n : Nat} {o : HO} (h : PenAt H p c cells n) (n1 : D ≠ p) (n2 : D ≠ c) : PenAt (upd H D o) p c cells n := by
  obtain ⟨a, g, h1, h2⟩ := h.ex
  exact ⟨⟨a, g, by rw [upd_ne n1.symm]; exact h1, h2⟩, by rw [upd_ne n2.symm]; exact h.cs, h.few, h.ne⟩
theorem dk_old {D0 : List PyData} {os : Nat → PyData} {o : PyData} {i j : Nat} (h : j ≤ i) : Dk D0 (fun k => if k = i then o else os k) j = Dk D0 os j := by
  cases j with
  | zero => rfl
  | succ j =>
    show D0.set j (if j = i then o else os j) = D0.set j (os j)
    rw [if_neg (by omega)]
theorem dk_new {D0 : List PyData} {os : Nat → PyData} {o : PyData} {i : Nat} : Dk D0 (fun k => if k = i then o else os k) (i + 1) = D0.set i o := by
  show D0.set i (if i = i then o else os i) = D0.set i o
  rw [if_pos rfl]
theorem set_cat {α : Type} {xs : List α} {i : Nat} {v : α} (h : i < xs.length) : xs.take i ++ [v] ++ xs.drop (i + 1) = xs.set i v := by
  rw [List.set_eq_take_append_cons_drop, if_pos h, List.append_assoc]
  rfl
/-- [[1], {"a": 2}], on the heap, as a datum -/
theorem dd_dv {K : PySem.W.Frag} {H : Hp} {a d s : Addr} (h1 : H a = some (.lst [.int 1])) (h2 : H d = some (.dK [(Sum.inr "a", .int 2)])) (h3 : H s = some (.lst [.ref a, .ref d])) : Dv K (offD H) (.ref s) DD :=
  .lst (SqL.of (off_at h3 fun _ _ z => nomatch z)) (.cons (.lst (SqL.of (off_at h1 fun _ _ z => nomatch z)) (.cons (.int 1) .nil)) (.cons (.dic (.inl (off_at h2 fun _ _ z => nomatch z)) (.cons (k := Sum.inr "a") (.int 2) .nil)) .nil))
theorem dd_at {K : PySem.W.Frag} {H : Hp} {a d s : Addr} (h1 : H a = some (.lst [.int 1])) (h2 : H d = some (.dK [(Sum.inr "a", .int 2)])) (h3 : H s = some (.lst [.ref a, .ref d])) : DDat K H (.ref s) := ⟨s, a, d, rfl, SqL.of h3, SqL.of h1, h2⟩
end K27
end

section
set_option Elab.async false
set_option linter.all false
set_option maxRecDepth 100000
set_option maxHeartbeats 4000000
/-! askings -/
namespace K27
open PySem PySem.Spec L2 KZ
abbrev sAR : Stmt := top 37
theorem op_eqOK {X : Cx} {CX : CXT} {n : Nat} {C f : Addr} {fd : FuncData} {ps : List Str} {sp : Sp} {E : XK} (K : PySem.W.Frag) (F : FnOk X.prog X.w X.K X.mg X.base CX n f fd ps sp) (O : OwnEqF X.K C f fd ps) (hx : Passes CX X E) (hr : Room n X.A) (h : X.K = K := by rfl) : OpR X (compareOp .Eq) (KZ.rOwn K C sp E false) := by subst h; exact op_eqO F O hx hr
theorem op_neOK {X : Cx} {CX : CXT} {n : Nat} {C f : Addr} {fd : FuncData} {ps : List Str} {sp : Sp} {E : XK} (K : PySem.W.Frag) (F : FnOk X.prog X.w X.K X.mg X.base CX n f fd ps sp) (O : OwnEqF X.K C f fd ps) (hx : Passes CX X E) (hr : Room (n + 1) X.A) (h : X.K = K := by rfl) : OpR X (compareOp .NotEq) (KZ.rOwn K C sp E true) := by subst h; exact op_neO F O hx hr
theorem dd_made {H : Hp} {a d s : Addr} (h1 : H a = none) (h2 : (upd H a (.lst [.int 1])) d = none) (h3 : (upd (upd (upd H a (.lst [.int 1])) d (.dK [])) d (.dK (mergeK [] [(Sum.inr "a", .int 2)]))) s = none) :
    ∃ H4, upd (upd (upd (upd H a (.lst [.int 1])) d (.dK [])) d (.dK (mergeK [] [(Sum.inr "a", .int 2)]))) s (.lst [.ref a, .ref d]) = H4 ∧ Same H H4 ∧ H4 a = some (.lst [.int 1]) ∧ H4 d = some (.dK [(Sum.inr "a", .int 2)]) ∧ H4 s = some (.lst [.ref a, .ref d]) := by
  have na : a ≠ d := fun z => by rw [← z, upd_same] at h2; cases h2
  have ns : a ≠ s := fun z => by rw [← z, upd_ne na, upd_ne na, upd_same] at h3; cases h3
  have nd : d ≠ s := fun z => by rw [← z, upd_same] at h3; cases h3
  have hd : H d = none := by rw [upd_ne na.symm] at h2; exact h2
  have hs : H s = none := by rw [upd_ne nd.symm, upd_ne nd.symm, upd_ne ns.symm] at h3; exact h3
  refine ⟨_, rfl, fun b o e => ?_, ?_, ?_, upd_same⟩
  · have b1 : b ≠ a := ne_of_none e h1
    have b2 : b ≠ d := ne_of_none e hd
    have b3 : b ≠ s := ne_of_none e hs
    rw [upd_ne b3, upd_ne b2, upd_ne b2, upd_ne b1]
    exact e
  · rw [upd_ne ns, upd_ne na, upd_ne na, upd_same]
  · rw [upd_ne nd, upd_same]
    rfl
theorem none_keptR {p c : Addr} {cells : List Int} {n : Nat} {H H' : Hp} {a : Addr} (k : Kept p H H') (pen : PenAt H' p c cells n) (h : H' a = none) : H a = none := by
  cases e : H a with
  | none => rfl
  | some o =>
    have z := k a o (pen.nn h).1 e
    rw [h] at z
    cases z
/-- an asking made, by keywords too; compared -/
structure AskA (P : Program) (w : World) (K : PySem.W.Frag) (mg : Str → Option Value) (base : Heap) (CA : Addr) : Prop where
  A : ClsF K mg "Asking" CA aF
  eq : ∃ f fd, FnOk P w K mg base CX0 1 f fd ["self", "other"] (spEqC K CA aF (rAE K)) ∧ OwnEqF K CA f fd ["self", "other"] ∧ PySem.W.notFirst K CA (.ref CA) = true ∧ PySem.W.notFirst K CA (.type "tuple") = true
  mak : ∃ f fd, Mk K CA f ∧ FnOk P w K mg base CX0 6 f fd (("self" : Str) :: aF) (spInitN 4 K CA aF) ∧ ∃ g, KBn K fd (("self" : Str) :: aF) 1 aF.reverse g fun vs zs => vs ++ zs.reverse
section
variable {P : Program} {w : World} {K : PySem.W.Frag} {mg : Str → Option Value} {base : Heap} {CA : Addr}
theorem scAR : FnScope ["well", "some", "same", "first", "papers", "at", "here", "whole", "again", "told", "k", "there"] ["well"] (defScope sAR) := ⟨rfl, rfl, rfl, by decide +kernel, rfl, by decide +kernel, by decide +kernel⟩
theorem ok_ar {f : Addr} {fd : FuncData} (F : Fun K "_law_askings_right" "_law_askings_right" sAR f fd) (T : B1 mg) (AS : AskA P w K mg base CA) (draw : Cal P w K mg base "_law_draw" 1 ["well", "many"] spDraw) (one : Cal P w K mg base "_law_one" 2 ["well", "some"] spOne)
    (ma : Cal P w K mg base "_law_made_asking" 8 ["row"] (spMA K CA)) : FnOk P w K mg base CX0 13 f fd ["well"] spYes := by
  obtain ⟨fD, dD, gD, GD, kD, bD⟩ := draw.ex
  obtain ⟨fO, dO, gO, GO, kO, bO⟩ := one.ex
  obtain ⟨fA, dA, gA, GA, kA, bA⟩ := ma.ex
  obtain ⟨fAe, dAe, FAe, OAe, nfA, nfT⟩ := AS.eq
  obtain ⟨fI, dI, MK, GI, gk, kbA⟩ := AS.mak
  have AA := AS.A
  refine F.ok scAR (fun vs H Q E h => ?_) (fun cdv A' outer s H vs Q E hr h => ?_)
  · obtain ⟨p, c, cells, n, rfl, _⟩ := h
    rfl
  · obtain ⟨p, c, cells, n, rfl, pen, hn, q⟩ := h
    have hr8 : Room 8 _ := hr.mono (by decide)
    have hr7 : Room 7 _ := hr.mono (by decide)
    have hr2 : Room 2 _ := hr.mono (by decide)
    have hr1 : Room 1 _ := hr.mono (by decide)
    have hr0 : Room 0 _ := hr.mono (by decide)
    refine ⟨_, (pss_cons (ps_par (i := 1) (j := 2) (by rfl) scAR.nd rfl rfl (by decide) rfl rfl (pa_cons (pe_lst (pa_cons (pe_lst (pa_cons pe_int pa_nil)) (pa_cons (pe_disp (pps_cons pe_str pe_int pps_nil) (by rfl) (by rfl) (fun z => by cases z) (by decide)) pa_nil))) (pa_cons (pe_lst (pa_cons (pe_lst (pa_cons pe_int pa_nil)) (pa_cons (pe_disp (pps_cons pe_str pe_int pps_nil) (by rfl) (by rfl) (fun z => by cases z) (by decide)) pa_nil))) pa_nil)) (by rfl))
(pss_cons (ps_set (i := 3) scAR.nd rfl (Or.inl rfl) (pe_lst (pa_cons (pe_call GD hr1 (by rfl) gD kD bD .nil pass0 (pa_cons (pv 0) (pa_cons pe_int pa_nil))) (pa_cons (pe_call GO hr2 (by rfl) gO kO bO .nil pass0 (pa_cons (pv 0) (pa_cons (pe_lst (pa_cons pe_str (pa_cons pe_str pa_nil))) pa_nil))) (pa_cons (pe_call GD hr1 (by rfl) gD kD bD .nil pass0 (pa_cons (pv 0) (pa_cons pe_int pa_nil))) (pa_cons (pe_call GD hr1 (by rfl) gD kD bD .nil pass0 (pa_cons (pv 0) (pa_cons pe_int pa_nil))) (pa_cons pe_int (pa_cons (pe_call GD hr1 (by rfl) gD kD bD .nil pass0 (pa_cons (pv 0) (pa_cons pe_int pa_nil))) (pa_cons pe_non (pa_cons (pe_tup (pa_cons pe_int (pa_cons pe_int pa_nil))) pa_nil))))))))))
(pss_cons (ps_set (i := 4) scAR.nd rfl (Or.inl rfl) (pe_lst (pa_cons (pe_call GA hr8 (by rfl) gA kA bA .nil pass0 (pa_cons (pv 3) pa_nil)) pa_nil)))
(pss_cons (ps_for PassesOwn.never rfl (pi_range1 (by rfl) T.range (pa_cons pe_int pa_nil)) (pg_name (i := 5) scAR.nd rfl (Or.inr rfl))
(pss_one (ps_expr (pe_bm PySem.F.plainAttrs_list PySem.F.slot_list_append PySem.F.type_list_append mt_append (pv 4) (pa_cons (pe_call GA hr8 (by rfl) gA kA bA .nil pass0 (pa_cons (pe_op op_cat (pe_op op_cat (pe_slice sl_list (pv 3) po_none (po_some (pv 5))) (pe_lst (pa_cons (pe_call GO hr2 (by rfl) gO kO bO .nil pass0 (pa_cons (pv 0) (pa_cons (pe_lst (pa_cons (pv 1) (pa_cons pe_str (pa_cons (pe_un un_neg pe_int) (pa_cons (pe_tup (pa_cons pe_int pa_nil)) pa_nil))))) pa_nil))) pa_nil))) (pe_slice sl_list (pv 3) (po_some (pe_op op_add (pv 5) pe_int)) po_none)) pa_nil)) pa_nil)))))
(pss_cons (ps_for PassesOwn.never rfl (pi_enum (by rfl) T.enum (pa_cons (pv 4) pa_nil)) (pg_tup rfl (pgs_cons (pg_name (i := 5) scAR.nd rfl (Or.inr rfl)) (pgs_cons (pg_name (i := 6) scAR.nd rfl (Or.inr rfl)) pgs_nil)))
(pss_one (ps_if (pt_cmpR (op_neD hr.units) (pe_lc (own := [("k", 10), ("there", 11)]) (by rfl) scAR.nd (pi_enum (by rfl) T.enum (pa_cons (pv 4) pa_nil)) (blkOk_by (own := [("k", 10), ("there", 11)]) (N := ["well", "some", "same", "first", "papers", "at", "here", "whole", "again", "told", "k", "there"]) (sc := defScope sAR) (by decide +kernel)) (fun _ _ _ _ _ => pg_tupK (n := 2) K rfl ((pgs_cons (pg_name (i := 10) scAR.nd rfl (Or.inl rfl)) (pgs_cons (pg_name (i := 11) scAR.nd rfl (Or.inl rfl)) pgs_nil)))) (fun _ _ _ _ _ => pts_one (PW.pt (pw_or (pt_cmpR op_ne (pe_cmpR (op_eqOK K FAe OAe pass0 hr1) (pv 6) (pv 11) (nomark _)) (pe_cmpR op_eq (pv 5) (pv 10) (nomark _)) (nomark _)) (pw_or1 (pt_cmpR op_ne (pe_cmpR (op_neOK K FAe OAe pass0 hr2) (pv 6) (pv 11) (nomark _)) (pe_cmpR op_ne (pv 5) (pv 10) (nomark _)) (nomark _)))))) (fun _ _ _ _ _ => pv 10)) (pe_lst pa_nil) (nomark _))
(pss_one (ps_ret pe_bl))
pss_nil)))
(pss_cons (ps_set (i := 7) scAR.nd rfl (Or.inl rfl) (pe_call GA hr8 (by rfl) gA kA bA .nil pass0 (pa_cons (pe_op op_rep (pe_lst (pa_cons (pv 1) pa_nil)) pe_int) pa_nil)))
(pss_cons (ps_set (i := 8) scAR.nd rfl (Or.inl rfl) (pe_makeK0 MK GI hr7 (by rfl) AA.g kbA pass0 (pk_cons (pe_ix ix_list (pv 3) pe_int (fun _ _ => rfl)) (pk_cons (pe_ix ix_list (pv 3) pe_int (fun _ _ => rfl)) (pk_cons (pe_ix ix_list (pv 3) pe_int (fun _ _ => rfl)) (pk_cons (pe_ix ix_list (pv 3) pe_int (fun _ _ => rfl)) (pk_cons (pe_ix ix_list (pv 3) pe_int (fun _ _ => rfl)) (pk_cons (pe_ix ix_list (pv 3) pe_int (fun _ _ => rfl)) (pk_cons (pe_ix ix_list (pv 3) pe_int (fun _ _ => rfl)) (pk_cons (pe_ix ix_list (pv 3) pe_int (fun _ _ => rfl)) pk_nil))))))))))
(pss_cons (ps_expr (pe_bm PySem.F.plainAttrs_list PySem.F.slot_list_append PySem.F.type_list_append mt_append (pe_ix ix_list (pv 1) pe_int (fun _ _ => rfl)) (pa_cons pe_int pa_nil)))
(pss_cons (ps_set (i := 9) scAR.nd rfl (Or.inl rfl) (pe_lst (pa_cons (pe_fldK K (pv 7) rfl) (pa_cons (pe_fldK K (pv 7) rfl) (pa_cons (pe_fldK K (pv 7) rfl) (pa_cons (pe_fldK K (pv 7) rfl) (pa_cons (pe_fldK K (pv 7) rfl) (pa_cons (pe_fldK K (pv 7) rfl) (pa_cons (pe_fldK K (pv 7) rfl) (pa_cons (pe_fldK K (pv 7) rfl) pa_nil))))))))))
(pss_one (ps_ret (pe_and (pe_cmpR (op_eqO FAe OAe pass0 hr1) (pv 8) (pe_ix ix_list (pv 4) pe_int (fun _ _ => rfl)) (nomark _)) (pe_and (pe_cmpR (op_neO FAe OAe pass0 hr2) (pe_ix ix_list (pv 4) pe_int (fun _ _ => rfl)) (pe_callTy call_tuple_of (by rfl) T.tuple (by decide +kernel) (pa_cons (pv 3) pa_nil)) (nomark _)) (pe_and (pe_cmpR (op_eqA hr0) (pv 9) (pe_op op_rep (pe_lst (pa_cons (pv 2) pa_nil)) pe_int) (nomark _)) (pe_one (pe_cmpR (op_eqO FAe OAe pass0 hr1) (pv 7) (pe_call GA hr8 (by rfl) gA kA bA .nil pass0 (pa_cons (pe_op op_rep (pe_lst (pa_cons (pv 2) pa_nil)) pe_int) pa_nil)) (nomark _))))))))))))))))), ?_⟩
    refine ⟨by show 1 ≤ sizeLine; decide, fun a1 ha1 d1 hd1 => ⟨upd_same, [(Sum.inr "a", .int 2)], rfl, by show 1 ≤ 15; decide, by show 2 ≤ sizeLine; decide, fun s0 hs0 => ?_⟩⟩
    obtain ⟨H1, e1, w1, f1, f2, f3⟩ := dd_made ha1 hd1 hs0
    rw [e1]
    clear hd1 hs0 e1
    refine ⟨by show 1 ≤ sizeLine; decide, fun b1 hb1 d2 hd2 => ⟨upd_same, [(Sum.inr "a", .int 2)], rfl, by show 1 ≤ 15; decide, by show 2 ≤ sizeLine; decide, fun s1 hs1 => ?_⟩⟩
    have nba : b1 ≠ a1 := fun z => by
      rw [z, f1] at hb1
      cases hb1
    obtain ⟨H2, e2, w2, g1, g2, g3⟩ := dd_made hb1 hd2 hs1
    rw [e2]
    have w12 := w1.trans w2
    have f1 := w2 _ _ f1
    have f2 := w2 _ _ f2
    have f3 := w2 _ _ f3
    clear hd2 hs1 e2 hb1
    have pen2 := pen.mono w12 (Nat.le_refl _)
    refine ⟨_, _, rfl, ?_⟩
    refine ⟨.ref p, rfl, p, c, cells, _, 90, rfl, pen2, by omega, by decide, by decide, fun i0 H3 i0a i0b pen3 kp3 => ?_⟩
    refine ⟨.ref p, rfl, by show 2 ≤ sizeLine; decide, fun Lw hLw => ?_⟩
    have s3 := same_new (o := .lst [.str "put", .str "get"]) hLw
    refine ⟨p, c, Lw, cells, _, _, rfl, pen3.mono s3 (Nat.le_refl _), by omega, upd_same, (pen3.nn hLw).1, by show 0 < 2; decide, by show 2 ≤ 100; decide, fun iw wv H4 hw pen4 kp4 => ?_⟩
    obtain ⟨ww, rfl, hww⟩ : ∃ ww : Str, wv = .str ww ∧ (ww = "put" ∨ ww = "get") := by
      match iw, hw with
      | 0, hw => exact ⟨"put", (Option.some.inj hw).symm, .inl rfl⟩
      | 1, hw => exact ⟨"get", (Option.some.inj hw).symm, .inr rfl⟩
    refine ⟨.ref p, rfl, p, c, cells, _, 90, rfl, pen4, by omega, by decide, by decide, fun i2 H5 i2a i2b pen5 kp5 => ?_⟩
    refine ⟨.ref p, rfl, p, c, cells, _, 9, rfl, pen5, by omega, by decide, by decide, fun i3 H6 i3a i3b pen6 kp6 => ?_⟩
    refine ⟨.ref p, rfl, p, c, cells, _, 9, rfl, pen6, by omega, by decide, by decide, fun i5 H7 i5a i5b pen7 kp7 => ?_⟩
    refine ⟨by show 2 ≤ sizeLine; decide, fun T35 hT35 => ⟨by show 8 ≤ sizeLine; decide, fun F hF => ?_⟩⟩
    have nep : ∀ {b : Addr} {o : HO}, H2 b = some o → (∀ x y z, o ≠ .lst [x, y, z]) → b ≠ p := fun {b o} e ne z => by
      obtain ⟨x1, x2, hp, _⟩ := pen2.ex
      rw [z, hp] at e
      exact ne _ _ _ (Option.some.inj e).symm
    have kpA : Kept p H2 H7 := kp3.trans ((Kept.of s3).trans (kp4.trans (kp5.trans (kp6.trans kp7))))
    have n1 : a1 ≠ p := nep f1 fun _ _ _ z => by cases z
    have n2 : d1 ≠ p := nep f2 fun _ _ _ z => by cases z
    have n3 : s0 ≠ p := nep f3 fun _ _ _ z => by cases z
    have m1 : b1 ≠ p := nep g1 fun _ _ _ z => by cases z
    have m2 : d2 ≠ p := nep g2 fun _ _ _ z => by cases z
    have m3 : s1 ≠ p := nep g3 fun _ _ _ z => by cases z
    have w1 := same_new (o := .tup [.int 3, .int 5]) hT35
    have eT : (upd H7 T35 (.tup [.int 3, .int 5])) T35 = some (.tup [.int 3, .int 5]) := upd_same
    generalize upd H7 T35 (.tup [.int 3, .int 5]) = H8 at w1 eT hF ⊢
    have w2 := same_new (o := .lst [.int i0, .str ww, .int i2, .int i3, .int 1, .int i5, .non, .ref T35]) hF
    have eF : (upd H8 F (.lst [.int i0, .str ww, .int i2, .int i3, .int 1, .int i5, .non, .ref T35])) F = some (.lst [.int i0, .str ww, .int i2, .int i3, .int 1, .int i5, .non, .ref T35]) := upd_same
    have nF : F ≠ p := (pen7.mono w1 (Nat.le_refl _)).nn hF |>.1
    have w3 := w1.trans w2
    have eT := w2 _ _ eT
    generalize upd H8 F (.lst [.int i0, .str ww, .int i2, .int i3, .int 1, .int i5, .non, .ref T35]) = H9 at w2 eF w3 eT ⊢
    have kp9 := kpA.trans (Kept.of w3)
    have f1 := kp9 _ _ n1 f1
    have f2 := kp9 _ _ n2 f2
    have f3 := kp9 _ _ n3 f3
    have g1 := kp9 _ _ m1 g1
    have g2 := kp9 _ _ m2 g2
    have g3 := kp9 _ _ m3 g3
    have kpH : Kept p H H9 := (Kept.of w12).trans kp9
    have pen9 : PenAt H9 p c cells (n + 10) := pen7.mono w3 (by omega)
    clear nep kpA kp9 kp3 kp4 kp5 kp6 kp7 pen2 pen3 pen4 pen5 pen6 pen7 w1 w2 w3 s3 hw hLw hT35 hF w12
    dsimp only [gName]
    let D0 : List PyData := [.int i0, .str ww, .int i2, .int i3, .int 1, .int i5, .none, .tuple [.int 3, .int 5]]
    have h0 : ∀ d ∈ D0, FstD d := by
      intro d m
      simp only [D0, List.mem_cons, List.not_mem_nil, or_false] at m
      rcases m with rfl | rfl | rfl | rfl | rfl | rfl | rfl | rfl
      · exact .inl ⟨_, i0a, rfl⟩
      · rcases hww with rfl | rfl
        · exact .inr (.inl rfl)
        · exact .inr (.inr (.inl rfl))
      · exact .inl ⟨_, i2a, rfl⟩
      · exact .inl ⟨_, i3a, rfl⟩
      · exact .inl ⟨_, by decide, rfl⟩
      · exact .inl ⟨_, i5a, rfl⟩
      · exact .inr (.inr (.inr (.inl rfl)))
      · exact .inr (.inr (.inr (.inr rfl)))
    have dv0 : ∀ {H' : Hp}, H' T35 = some (.tup [.int 3, .int 5]) → Dvs K (offD H') [.int i0, .str ww, .int i2, .int i3, .int 1, .int i5, .non, .ref T35] D0 := fun e =>
      .cons (.int _) (.cons (.str _) (.cons (.int _) (.cons (.int _) (.cons (.int _) (.cons (.int _) (.cons .non (.cons (.tup (SqT.of (off_at e fun _ _ z => nomatch z)) (.cons (.int _) (.cons (.int _) .nil))) .nil)))))))
    refine ⟨.ref F, rfl, ?_⟩
    dsimp only [tNil, List.append_nil]
    refine ma_go (ex := fun b => b = p ∨ b = a1) (.inl (SqL.of eF)) rfl (dv0 eT) (fun d m => fst_cp (h0 d m)) (fun e z => ?_) fun x0 HB s10 as0 => ⟨by show 1 ≤ sizeLine; decide, fun L hL => ?_⟩
    · rcases z with rfl | rfl
      · obtain ⟨_, _, hp, _⟩ := pen9.ex
        exact ⟨_, hp⟩
      · exact ⟨_, f1⟩
    have kpB : Kept p H HB := kpH.trans (Kept.of s10)
    have penB := pen9.mono s10 (Nat.le_refl _)
    have f1 := s10 _ _ f1
    have f2 := s10 _ _ f2
    have f3 := s10 _ _ f3
    have g1 := s10 _ _ g1
    have g2 := s10 _ _ g2
    have g3 := s10 _ _ g3
    have eF := s10 _ _ eF
    have eT := s10 _ _ eT
    have nTp : T35 ≠ p := fun z => by
      obtain ⟨_, _, hp, _⟩ := penB.ex
      rw [z, hp] at eT
      cases eT
    have nL := penB.nn hL
    have hHL : H L = none := none_keptR kpB penB hL
    have neL : ∀ {b : Addr} {o : HO}, HB b = some o → b ≠ L := fun e => ne_of_none e hL
    have sB := same_new (o := .lst [.ref x0]) hL
    have asB : AsAt K CA (fun b => (b = p ∨ b = a1) ∨ b = L) (upd HB L (.lst [.ref x0])) x0 D0 := (as0.ext hL).keep (KX.of sB)
    have kxB : KX (fun b => b = p ∨ b = L) HB (upd HB L (.lst [.ref x0])) := KX.of sB
    have penC := penB.mono sB (Nat.le_refl _)
    have eL : (upd HB L (.lst [.ref x0])) L = some (.lst [.ref x0]) := upd_same
    have aF1 : ∀ {b : Addr} {o : HO} {H' : Hp}, HB b = some o → b ≠ p → KX (fun b => b = p ∨ b = L) HB H' → H' b = some o := fun e n k => k _ _ (fun z => z.elim n (neL e)) e
    clear kpH pen9 s10 as0
    dsimp only [gName]
    refine ⟨8, rfl, by decide, by decide, ?_⟩
    refine for_it (walk_range (lo := 0) (n := 8)) (fun i σ H' => (∃ x5 x6 x7 x8 x9 x10 x11, σ = [some (.ref p), some (.ref s0), some (.ref s1), some (.ref F), some (.ref L), x5, x6, x7, x8, x9, x10, x11]) ∧ PenAt H' p c cells (n + 10 + i) ∧ KX (fun b => b = p ∨ b = L) HB H' ∧
      ∃ as os, (∀ k, os k ∈ oddA) ∧ as.length = i + 1 ∧ H' L = some (.lst (as.map V.ref)) ∧ ∀ j a, as[j]? = some a → AsAt K CA (fun b => (b = p ∨ b = a1) ∨ b = L) H' a (Dk D0 os j))
      ⟨⟨_, _, _, _, _, _, _, rfl⟩, penC, kxB, [x0], fun _ => DD, (fun _ => List.mem_cons_self), rfl, eL, fun j a e => ?_⟩ (fun _ _ _ _ _ => True.intro) ?_ ?_
    · cases j with
      | zero => cases e; exact asB
      | succ j => simp at e
    · rintro i _ _ H11 H12 hi ⟨⟨x5, x6, x7, x8, x9, x10, x11, rfl⟩, c1, c2, as, os, c3, c4, c5, c6⟩ ⟨rfl, rfl⟩
      dsimp only [gName]
      refine ⟨.ref L, rfl, .inl ⟨rfl, _, SqL.of c5⟩, ?_⟩
      have eF12 := aF1 eF nF c2
      have vi : (8 : Nat) = [V.int i0, .str ww, .int i2, .int i3, .int 1, .int i5, .non, .ref T35].length := rfl
      refine ⟨.ref F, rfl, .int (0 + (i : Int)), rfl, 0 + (i : Int), rfl, F, _, rfl, SqL.of eF12, fun p1 hp1 => ?_⟩
      rw [show (0 + (i : Int)) = ((i : Nat) : Int) by omega, cut_take (by rw [← vi]; omega)]
      have u1 := same_new (o := .lst ([V.int i0, .str ww, .int i2, .int i3, .int 1, .int i5, .non, .ref T35].take i)) hp1
      have v1 : (upd H12 p1 (.lst ([V.int i0, .str ww, .int i2, .int i3, .int 1, .int i5, .non, .ref T35].take i))) p1 = some (.lst ([V.int i0, .str ww, .int i2, .int i3, .int 1, .int i5, .non, .ref T35].take i)) := upd_same
      generalize upd H12 p1 (.lst ([V.int i0, .str ww, .int i2, .int i3, .int 1, .int i5, .non, .ref T35].take i)) = H13 at u1 v1 ⊢
      refine ⟨.ref p, rfl, .ref s0, rfl, 1, rfl, by show 1 ≤ sizeLine; decide, fun T9 hT9 => ⟨by show 4 ≤ sizeLine; decide, fun LL hLL => ?_⟩⟩
      have pen13 := c1.mono u1 (Nat.le_refl _)
      have np1 : p1 ≠ p := (c1.nn hp1).1
      have u2 := same_new (o := .tup [.int 9]) hT9
      have v2 : (upd H13 T9 (.tup [.int 9])) T9 = some (.tup [.int 9]) := upd_same
      have nT9 : T9 ≠ p := (pen13.nn hT9).1
      generalize upd H13 T9 (.tup [.int 9]) = H14 at u2 v2 hLL ⊢
      have pen14 := pen13.mono u2 (Nat.le_refl _)
      have u3 := same_new (o := .lst [.ref s0, .str "x", .int (-1), .ref T9]) hLL
      refine ⟨p, c, LL, cells, _, _, rfl, pen14.mono u3 (Nat.le_refl _), by omega, upd_same, (pen14.nn hLL).1, by show 0 < 4; decide, by show 4 ≤ 100; decide, fun io ov H15 ho pen15 kp15 => ⟨by show 1 ≤ sizeLine; decide, fun P2 hP2 => ?_⟩⟩
      have u4 := same_new (o := .lst [ov]) hP2
      have kx15 : KX (fun b => b = p ∨ b = L) HB H15 := c2.trans ((KX.of (u1.trans (u2.trans u3))).trans fun b o nb e => kp15 b o (fun z => nb (.inl z)) e)
      have v15 : H15 p1 = some (.lst ([V.int i0, .str ww, .int i2, .int i3, .int 1, .int i5, .non, .ref T35].take i)) := kp15 _ _ np1 (u3 _ _ (u2 _ _ v1))
      have w15 : H15 T9 = some (.tup [.int 9]) := kp15 _ _ nT9 (u3 _ _ v2)
      have l15 : H15 L = some (.lst (as.map V.ref)) := kp15 _ _ nL.1 (u3 _ _ (u2 _ _ (u1 _ _ c5)))
      refine ⟨p1, P2, _, _, rfl, rfl, u4 _ _ v15, upd_same, ?_, fun P3 hP3 => ?_⟩
      · rw [List.length_take, sizeLine_eq]
        exact Nat.le_trans (Nat.add_le_add_right (Nat.min_le_right _ _) _) (by show 8 + 1 ≤ 16777216; decide)
      have e16 : (upd H15 P2 (.lst [ov])) P2 = some (.lst [ov]) := upd_same
      generalize upd H15 P2 (.lst [ov]) = H16 at u4 hP3 e16 ⊢
      have u5 := same_new (o := .lst ([V.int i0, .str ww, .int i2, .int i3, .int 1, .int i5, .non, .ref T35].take i ++ [ov])) hP3
      have e17 : (upd H16 P3 (.lst ([V.int i0, .str ww, .int i2, .int i3, .int 1, .int i5, .non, .ref T35].take i ++ [ov]))) P3 = some (.lst ([V.int i0, .str ww, .int i2, .int i3, .int 1, .int i5, .non, .ref T35].take i ++ [ov])) := upd_same
      generalize upd H16 P3 (.lst ([V.int i0, .str ww, .int i2, .int i3, .int 1, .int i5, .non, .ref T35].take i ++ [ov])) = H17 at u5 e17 ⊢
      have u45 := u4.trans u5
      have kx17 := kx15.trans (KX.of u45)
      refine ⟨.ref F, rfl, .int (i : Int), rfl, (i : Int), 1, rfl, rfl, (i : Int) + 1, rfl, F, _, rfl, SqL.of (aF1 eF nF kx17), fun P4 hP4 => ?_⟩
      rw [show ((i : Int) + 1) = ((i + 1 : Nat) : Int) by omega, cut_drop (by rw [← vi]; omega)]
      have u6 := same_new (o := .lst ([V.int i0, .str ww, .int i2, .int i3, .int 1, .int i5, .non, .ref T35].drop (i + 1))) hP4
      refine ⟨P3, P4, _, _, rfl, rfl, u6 _ _ e17, upd_same, ?_, fun P5 hP5 => ?_⟩
      · rw [List.length_append, List.length_take, List.length_drop, sizeLine_eq, ← vi]
        show min i 8 + 1 + (8 - (i + 1)) ≤ 16777216
        omega
      generalize upd H17 P4 (.lst ([V.int i0, .str ww, .int i2, .int i3, .int 1, .int i5, .non, .ref T35].drop (i + 1))) = H18 at u6 hP5 ⊢
      rw [set_cat (by rw [← vi]; omega)]
      have u7 := same_new (o := .lst ([V.int i0, .str ww, .int i2, .int i3, .int 1, .int i5, .non, .ref T35].set i ov)) hP5
      have e19 : (upd H18 P5 (.lst ([V.int i0, .str ww, .int i2, .int i3, .int 1, .int i5, .non, .ref T35].set i ov))) P5 = some (.lst ([V.int i0, .str ww, .int i2, .int i3, .int 1, .int i5, .non, .ref T35].set i ov)) := upd_same
      generalize upd H18 P5 (.lst ([V.int i0, .str ww, .int i2, .int i3, .int 1, .int i5, .non, .ref T35].set i ov)) = H19 at u7 e19 ⊢
      have u15 := u45.trans (u6.trans u7)
      have kx19 := kx15.trans (KX.of u15)
      have pen19 := pen15.mono u15 (Nat.le_refl _)
      have h1 := aF1 f1 n1 kx19
      have h2 := aF1 f2 n2 kx19
      have h3 := aF1 f3 n3 kx19
      have l19 := u15 _ _ l15
      obtain ⟨o, hoo, vo⟩ : ∃ o, o ∈ oddA ∧ Dv K (offD H19) ov o := by
        match io, ho with
        | 0, ho => cases ho; exact ⟨DD, List.mem_of_getElem? (i := 0) rfl, dd_dv h1 h2 h3⟩
        | 1, ho => cases ho; exact ⟨.str "x", List.mem_of_getElem? (i := 1) rfl, .str _⟩
        | 2, ho => cases ho; exact ⟨.int (-1), List.mem_of_getElem? (i := 2) rfl, .int _⟩
        | 3, ho => cases ho; exact ⟨.tuple [.int 9], List.mem_of_getElem? (i := 3) rfl, .tup (SqT.of (off_at (u15 _ _ w15) fun _ _ z => nomatch z)) (.cons (.int _) .nil)⟩
      dsimp only [tNil, List.append_nil]
      refine ma_go (ex := fun b => (b = p ∨ b = a1) ∨ b = L) (ds := D0.set i o) (.inl (SqL.of e19)) (by rw [List.length_set]; rfl) (dvs_set i (dv0 (aF1 eT nTp kx19)) vo) (fun d m => ?_) (fun e z => ?_) fun x H20 s20 as20 => ?_
      · rcases List.mem_or_eq_of_mem_set m with m | rfl
        · exact fst_cp (h0 d m)
        · exact odd_cpA _ hoo
      · rcases z with (rfl | rfl) | rfl
        · obtain ⟨_, _, hp, _⟩ := pen19.ex
          exact ⟨_, hp⟩
        · exact ⟨_, h1⟩
        · exact ⟨_, l19⟩
      have l20 := s20 _ _ l19
      refine ⟨L, as.map V.ref, .ref x, rfl, rfl, l20, ?_, ⟨_, _, _, _, _, _, _, rfl⟩, (pen_popA (pen19.mono s20 (Nat.le_refl _)) nL.1 nL.2).mono (Same.refl _) (by omega), ?_, as ++ [x], (fun k => if k = i then o else os k), fun k => ?_, ?_, ?_, fun j a e => ?_⟩
      · rw [List.length_map, c4, sizeLine_eq]
        omega
      · exact (kx19.trans (KX.of s20)).trans fun b o nb e => by rw [upd_ne (fun z => nb (.inr z))]; exact e
      · dsimp only
        split
        · exact hoo
        · exact c3 k
      · rw [List.length_append, c4]
        rfl
      · rw [upd_same, List.map_append]
        rfl
      · have kL : KX (fun b => (b = p ∨ b = a1) ∨ b = L) H20 (upd H20 L (.lst (as.map V.ref ++ [.ref x]))) := fun b o nb e => by rw [upd_ne (fun z => nb (.inr z))]; exact e
        by_cases hj : j < as.length
        · rw [List.getElem?_append_left hj] at e
          rw [dk_old (by omega)]
          refine ((c6 j a e).keep ?_).keep kL
          exact (KX.of (u1.trans (u2.trans u3))).trans (KX.trans (fun b o nb e => kp15 b o (fun z => nb (.inl (.inl z))) e) (KX.of (u15.trans s20)))
        · rw [List.getElem?_append_right (by omega)] at e
          have e0 : j - as.length = 0 := by
            by_cases z : j - as.length = 0
            · exact z
            · rw [List.getElem?_eq_none (by rw [List.length_singleton]; omega)] at e
              cases e
          rw [e0] at e
          cases e
          rw [show j = i + 1 by omega, dk_new]
          exact as20.keep kL
    rintro _ H11 ⟨⟨x5, x6, x7, x8, x9, x10, x11, rfl⟩, c1, c2, as, os, c3, c4, c5, c6⟩
    have D08 : D0.length = 8 := rfl
    refine ⟨.ref L, rfl, L, as.map V.ref, rfl, SqL.of c5, ?_⟩
    refine for_it (walk_enum (K := K) (a := L) (xs := as.map V.ref)) (fun i σ H' => (∃ x5 x6 x7 x8 x9 x10 x11, σ = [some (.ref p), some (.ref s0), some (.ref s1), some (.ref F), some (.ref L), x5, x6, x7, x8, x9, x10, x11]) ∧ Same H11 H') ⟨⟨_, _, _, _, _, _, _, rfl⟩, Same.refl _⟩ (fun i σ H' _ z => SqL.of (z.2 _ _ c5)) ?_ ?_
    · rintro i y _ H12 H13 hi ⟨⟨x5, x6, x7, x8, x9, x10, x11, rfl⟩, s1⟩ ⟨T0, xa, xb, rfl, hT0, rfl, ea, eb⟩
      rw [List.length_map] at hi
      cases ea
      cases ym_ref eb (List.getElem?_eq_getElem hi)
      have asI := c6 i _ (List.getElem?_eq_getElem hi)
      have s2 := s1.trans (same_new (o := .tup [.int (i : Nat), .ref as[i]]) hT0)
      refine ⟨T0, _, rfl, SqT.of upd_same, rfl, ?_⟩
      dsimp only [gCons, gNil, gName]
      refine ⟨_, _, rfl, _, _, rfl, rfl, ?_⟩
      generalize upd H12 T0 (.tup [.int (i : Nat), .ref as[i]]) = H13 at s2 ⊢
      refine ⟨.ref L, rfl, L, as.map V.ref, rfl, SqL.of (s2 _ _ c5), fun D hD => ?_⟩
      refine lc_it (walk_enum (K := K) (a := L) (xs := as.map V.ref)) (fun k H' => Same H13 H' ∧ H' D = some (.lst [])) ⟨same_new hD, upd_same⟩ (fun k H' _ z => SqL.of (z.1 _ _ (s2 _ _ c5))) ?_ ?_
      · rintro k y H14 H15 hk ⟨s3, d3⟩ ⟨T1, xa, xb, rfl, hT1, rfl, ea, eb⟩
        rw [List.length_map] at hk
        cases ea
        cases ym_ref eb (List.getElem?_eq_getElem hk)
        have asK := c6 k _ (List.getElem?_eq_getElem hk)
        have s4 := s3.trans (same_new (o := .tup [.int (k : Nat), .ref as[k]]) hT1)
        have d4 := same_new (o := .tup [.int (k : Nat), .ref as[k]]) hT1 _ _ d3
        have s24 := s2.trans s4
        refine ⟨T1, _, rfl, SqT.of upd_same, rfl, ?_⟩
        dsimp only [gCons, gNil, gName]
        refine ⟨_, _, rfl, _, _, rfl, rfl, rfl, ?_⟩
        generalize upd H14 T1 (.tup [.int (k : Nat), .ref as[k]]) = H15 at s4 d4 s24 ⊢
        have aI := asI.keep (KX.of s24)
        have aK := asK.keep (KX.of s24)
        obtain ⟨dxi, vi', hai, _⟩ := aI.ins
        obtain ⟨dxk, vk', hak, _⟩ := aK.ins
        have ce := dk_eq h0 c3 (i := i) (j := k) (by rw [D08]; omega) (by rw [D08]; omega)
        have ez : decide (V.int (i : Int) = V.int (k : Int)) = decide (i = k) := decide_eq_decide.mpr ⟨fun z => by cases z; rfl, fun z => by rw [z]⟩
        have lI := (dk_len (D0 := D0) (os := os) (i := i)).trans D08
        have lK := (dk_len (D0 := D0) (os := os) (i := k)).trans D08
        refine ⟨.ref as[i], rfl, .ref as[k], rfl, as[i], dxi, _, .ref CA, rfl, hai, AA.ty _ _ _ _ hak, nfA, as_eq aI aK (dk_af h0 c3 i) (dk_af h0 c3 k) lI lK ⟨_, rfl, .int (i : Int), rfl, .int (k : Int), rfl, rfl, rfl, _, rfl, ?_⟩⟩
        rw [ce, ez, show (!decide (V.bl (false != decide (i = k)) = V.bl (decide (i = k)))) = false by cases decide (i = k) <;> decide]
        refine iteF' ⟨.ref as[i], rfl, .ref as[k], rfl, as[i], dxi, _, .ref CA, rfl, hai, AA.ty _ _ _ _ hak, nfA, as_eq aI aK (dk_af h0 c3 i) (dk_af h0 c3 k) lI lK ⟨_, rfl, .int (i : Int), rfl, .int (k : Int), rfl, rfl, rfl, _, rfl, ?_⟩⟩
        rw [ce, ez, show (!decide (V.bl (true != decide (i = k)) = V.bl (!decide (i = k)))) = false by cases decide (i = k) <;> decide]
        show (if false = true then _ else _)
        rw [if_neg Bool.false_ne_true]
        exact ⟨s4, d4⟩
      rintro H14 ⟨s3, d3⟩
      refine ⟨Nat.zero_le _, fun N hN => ?_⟩
      refine ⟨.list [], .list [], .lst (SqL.of (same_new hN _ _ d3)) .nil, .lst (SqL.of upd_same) .nil, by decide, by decide, _, rfl, ?_⟩
      refine iteF ⟨⟨_, _, _, _, _, _, _, rfl⟩, s2.trans (s3.trans (same_new hN))⟩
    rintro _ H12 ⟨⟨x5, x6, x7, x8, x9, x10, x11, rfl⟩, s12⟩
    have k12 : KX (fun b => b = p ∨ b = L) HB H12 := c2.trans (KX.of s12)
    have pen12 := c1.mono s12 (Nat.le_refl _)
    have l12 := s12 _ _ c5
    have ex3 : ∀ {H' : Hp}, Same H12 H' → ∀ e, ((e = p ∨ e = a1) ∨ e = L) → ∃ xs, H' e = some (.lst xs) := fun s e z => by
      rcases z with (rfl | rfl) | rfl
      · obtain ⟨_, _, hp, _⟩ := pen12.ex
        exact ⟨_, s _ _ hp⟩
      · exact ⟨_, s _ _ (aF1 f1 n1 k12)⟩
      · exact ⟨_, s _ _ l12⟩
    obtain ⟨a0, ha0⟩ : ∃ a0, as[0]? = some a0 := ⟨_, List.getElem?_eq_getElem (by omega)⟩
    have asZ : AsAt K CA (fun b => (b = p ∨ b = a1) ∨ b = L) H12 a0 D0 := (c6 0 a0 ha0).keep (KX.of s12)
    have haf : ∀ d ∈ D0, AFd d := fun d m => fst_af (h0 d m)
    have d8 : ∀ d ∈ List.replicate 8 DD, d = DD := fun d m => List.eq_of_mem_replicate m
    refine ⟨.ref s0, rfl, by show 1 ≤ sizeLine; decide, fun R1 hR1 => ⟨R1, 8, [.ref s0], rfl, rfl, upd_same, by decide, by decide, by show 1 * 8 ≤ sizeLine; decide, fun R2 hR2 => ?_⟩⟩
    have t1 := (same_new (o := .lst [.ref s0]) hR1).trans (same_new (o := .lst (List.replicate (8 : Int).toNat [V.ref s0]).flatten) hR2)
    have r2 : (upd (upd H12 R1 (.lst [.ref s0])) R2 (.lst (List.replicate (8 : Int).toNat [V.ref s0]).flatten)) R2 = some (.lst (List.replicate 8 (V.ref s0))) := upd_same
    generalize upd (upd H12 R1 (.lst [.ref s0])) R2 (.lst (List.replicate (8 : Int).toNat [V.ref s0]).flatten) = H13 at t1 r2 ⊢
    have k13 := k12.trans (KX.of t1)
    dsimp only [tNil, List.append_nil]
    refine ma_go (ex := fun b => (b = p ∨ b = a1) ∨ b = L) (ds := List.replicate 8 DD) (.inl (SqL.of r2)) rfl (rep_dv (dd_dv (aF1 f1 n1 k13) (aF1 f2 n2 k13) (aF1 f3 n3 k13)) 8) (fun d m => by rw [d8 d m]; exact dd_cp) (ex3 t1) fun wh H14 s14 asW => ?_
    have t14 := t1.trans s14
    have k14 := k13.trans (KX.of s14)
    have eF14 := aF1 eF nF k14
    dsimp only [gName]
    refine ⟨.ref F, rfl, F, _, 7, _, rfl, rfl, SqL.of eF14, at_nat (i := 7) rfl, .ref F, rfl, F, _, 6, _, rfl, rfl, SqL.of eF14, at_nat (i := 6) rfl, .ref F, rfl, F, _, 5, _, rfl, rfl, SqL.of eF14, at_nat (i := 5) rfl, .ref F, rfl, F, _, 4, _, rfl, rfl, SqL.of eF14, at_nat (i := 4) rfl, .ref F, rfl, F, _, 3, _, rfl, rfl, SqL.of eF14, at_nat (i := 3) rfl, .ref F, rfl, F, _, 2, _, rfl, rfl, SqL.of eF14, at_nat (i := 2) rfl, .ref F, rfl, F, _, 1, _, rfl, rfl, SqL.of eF14, at_nat (i := 1) rfl, .ref F, rfl, F, _, 0, _, rfl, rfl, SqL.of eF14, at_nat (i := 0) rfl, rfl, rfl, fun ag dx hx hdx ne => ?_⟩
    refine ini_as (ex := fun b => (b = p ∨ b = a1) ∨ b = L) (vals := [V.int i0, .str ww, .int i2, .int i3, .int 1, .int i5, .non, .ref T35]) (ds := D0) hx hdx ne rfl (dv0 (aF1 eT nTp k14)) (fun d m => fst_cp (h0 d m)) (ex3 t14) fun H15 s15 asG => ?_
    have k15 := k14.trans (KX.of s15)
    have t15 := t14.trans s15
    have h1 := aF1 f1 n1 k15
    have h3 := aF1 f3 n3 k15
    dsimp only [gName]
    refine ⟨.ref s0, rfl, s0, _, 0, .ref a1, rfl, rfl, SqL.of h3, at_nat (i := 0) rfl, .inl ⟨rfl, _, SqL.of h1⟩, a1, [.int 1], .int 7, rfl, rfl, h1, by show 1 < sizeLine; decide, ?_⟩
    have kA : KX (fun b => (b = p ∨ b = a1) ∨ b = L) H15 (upd H15 a1 (.lst ([.int 1] ++ [.int 7]))) := fun b o nb e => by rw [upd_ne (fun z => nb (.inl (.inr z)))]; exact e
    have at16 : ∀ {b : Addr} {o : HO}, HB b = some o → b ≠ p → o ≠ .lst [.int 1] → (upd H15 a1 (.lst ([.int 1] ++ [.int 7]))) b = some o := fun {b o} e n ne => by
      have e15 := aF1 e n k15
      rw [upd_ne (fun z => ne (Option.some.inj (by rw [← e15, z, h1])))]
      exact e15
    have nLa : L ≠ a1 := fun z => by
      have := t15 _ _ l12
      rw [z, h1] at this
      injection this with this
      injection this with this
      cases as with
      | nil => cases this
      | cons a r => cases this
    have l16 : (upd H15 a1 (.lst ([.int 1] ++ [.int 7]))) L = some (.lst (as.map V.ref)) := by rw [upd_ne nLa]; exact t15 _ _ l12
    have g1' : (upd H15 a1 (.lst ([.int 1] ++ [.int 7]))) b1 = some (.lst [.int 1]) := by rw [upd_ne nba]; exact aF1 g1 m1 k15
    have g2' := at16 g2 m2 (fun z => by cases z)
    have g3' := at16 g3 m3 (fun z => by cases z)
    have eF16 := at16 eF nF (fun z => by cases z)
    have pen16 : PenAt (upd H15 a1 (.lst ([.int 1] ++ [.int 7]))) p c cells (n + 18) := pen_popA (pen12.mono t15 (Nat.le_refl _)) n1 (pen.nn ha1).2
    have kp16 : Kept p H (upd H15 a1 (.lst ([.int 1] ++ [.int 7]))) := fun b o nb e => by
      have e1 := kpB b o nb e
      rw [upd_ne (fun z => by rw [z, ha1] at e; cases e)]
      exact aF1 e1 nb k15
    have asZ16 := (asZ.keep (KX.of t15)).keep kA
    have asW16 := (asW.keep (KX.of s15)).keep kA
    have asG16 := asG.keep kA
    generalize upd H15 a1 (.lst ([.int 1] ++ [.int 7])) = H16 at l16 g1' g2' g3' eF16 pen16 kp16 asZ16 asW16 asG16 ⊢
    obtain ⟨dxw, v0, v1, v2, v3, v4, v5, v6, v7, hwh, hdd⟩ := asW16.dds
    refine ⟨.ref wh, rfl, wh, CA, dxw, _, v0, rfl, hwh, AA.cl, AA.no _ (by decide), rfl, .ref wh, rfl, wh, CA, dxw, _, v1, rfl, hwh, AA.cl, AA.no _ (by decide), rfl, .ref wh, rfl, wh, CA, dxw, _, v2, rfl, hwh, AA.cl, AA.no _ (by decide), rfl, .ref wh, rfl, wh, CA, dxw, _, v3, rfl, hwh, AA.cl, AA.no _ (by decide), rfl, .ref wh, rfl, wh, CA, dxw, _, v4, rfl, hwh, AA.cl, AA.no _ (by decide), rfl, .ref wh, rfl, wh, CA, dxw, _, v5, rfl, hwh, AA.cl, AA.no _ (by decide), rfl, .ref wh, rfl, wh, CA, dxw, _, v6, rfl, hwh, AA.cl, AA.no _ (by decide), rfl, .ref wh, rfl, wh, CA, dxw, _, v7, rfl, hwh, AA.cl, AA.no _ (by decide), rfl, by show 8 ≤ sizeLine; decide, fun TL hTL => ?_⟩
    have u1 := same_new (o := .lst [v0, v1, v2, v3, v4, v5, v6, v7]) hTL
    have eTL : (upd H16 TL (.lst [v0, v1, v2, v3, v4, v5, v6, v7])) TL = some (.lst [v0, v1, v2, v3, v4, v5, v6, v7]) := upd_same
    generalize upd H16 TL (.lst [v0, v1, v2, v3, v4, v5, v6, v7]) = H17 at u1 eTL ⊢
    have z17 := asZ16.keep (KX.of u1)
    have g17 := asG16.keep (KX.of u1)
    obtain ⟨dxz, vz, hz, lz⟩ := z17.ins
    obtain ⟨dxg, vg, hg, lg⟩ := g17.ins
    have ez : (as.map V.ref)[0]? = some (.ref a0) := by rw [List.getElem?_map, ha0]; rfl
    dsimp only [gName]
    refine ⟨.ref ag, rfl, .ref L, rfl, L, _, 0, .ref a0, rfl, rfl, SqL.of (u1 _ _ l16), at_nat (i := 0) ez, ag, dxg, _, .ref CA, rfl, hg, AA.ty _ _ _ _ hz, nfA, as_eq g17 z17 haf haf D08 D08 ⟨_, rfl, _, rfl, ?_⟩⟩
    rw [ceqs_refl haf]
    refine iteT' ⟨.ref L, rfl, L, _, 0, .ref a0, rfl, rfl, SqL.of (u1 _ _ l16), at_nat (i := 0) ez, .ref F, rfl, F, _, rfl, .inl ⟨SqL.of (u1 _ _ eF16), fun tt htt => ?_⟩⟩
    have u2 := u1.trans (same_new (o := .tup [V.int i0, .str ww, .int i2, .int i3, .int 1, .int i5, .non, .ref T35]) htt)
    have ett : (upd H17 tt (.tup [V.int i0, .str ww, .int i2, .int i3, .int 1, .int i5, .non, .ref T35])) tt = some (.tup [V.int i0, .str ww, .int i2, .int i3, .int 1, .int i5, .non, .ref T35]) := upd_same
    have hz2 := same_new (o := .tup [V.int i0, .str ww, .int i2, .int i3, .int 1, .int i5, .non, .ref T35]) htt _ _ hz
    have eTL2 := same_new (o := .tup [V.int i0, .str ww, .int i2, .int i3, .int 1, .int i5, .non, .ref T35]) htt _ _ eTL
    generalize upd H17 tt (.tup [V.int i0, .str ww, .int i2, .int i3, .int 1, .int i5, .non, .ref T35]) = H18 at u2 ett hz2 eTL2 ⊢
    refine ⟨a0, dxz, _, .type "tuple", rfl, hz2, .tup ett, nfT, a0, .ref tt, dxz, vz, rfl, hz2, lz, .inr ⟨.type "tuple", .base (.tup ett), AA.no7 "tuple" (by decide), _, rfl, _, rfl, ?_⟩⟩
    refine iteT' ⟨.ref TL, rfl, .ref s1, rfl, by show 1 ≤ sizeLine; decide, fun R3 hR3 => ⟨R3, 8, [.ref s1], rfl, rfl, upd_same, by decide, by decide, by show 1 * 8 ≤ sizeLine; decide, fun R4 hR4 => ?_⟩⟩
    have u3 := (same_new (o := .lst [.ref s1]) hR3).trans (same_new (o := .lst (List.replicate (8 : Int).toNat [V.ref s1]).flatten) hR4)
    have r4 : (upd (upd H18 R3 (.lst [.ref s1])) R4 (.lst (List.replicate (8 : Int).toNat [V.ref s1]).flatten)) R4 = some (.lst (List.replicate 8 (V.ref s1))) := upd_same
    generalize upd (upd H18 R3 (.lst [.ref s1])) R4 (.lst (List.replicate (8 : Int).toNat [V.ref s1]).flatten) = H19 at u3 r4 ⊢
    have u19 := u2.trans u3
    have sm1 := dd_at (K := K) (u19 _ _ g1') (u19 _ _ g2') (u19 _ _ g3')
    refine ⟨true, .lst (SqL.of (u3 _ _ eTL2)) (SqL.of r4) rfl (fun j x y hx hy => ?_), _, rfl, ?_⟩
    · rw [List.eq_of_mem_replicate (List.mem_of_getElem? hy)]
      exact DDat.smd ((hdd x (List.mem_of_getElem? hx)).mono u19) sm1
    refine iteT' ⟨.ref wh, rfl, .ref s1, rfl, by show 1 ≤ sizeLine; decide, fun R5 hR5 => ⟨R5, 8, [.ref s1], rfl, rfl, upd_same, by decide, by decide, by show 1 * 8 ≤ sizeLine; decide, fun R6 hR6 => ?_⟩⟩
    have u4 := (same_new (o := .lst [.ref s1]) hR5).trans (same_new (o := .lst (List.replicate (8 : Int).toNat [V.ref s1]).flatten) hR6)
    have r6 : (upd (upd H19 R5 (.lst [.ref s1])) R6 (.lst (List.replicate (8 : Int).toNat [V.ref s1]).flatten)) R6 = some (.lst (List.replicate 8 (V.ref s1))) := upd_same
    generalize upd (upd H19 R5 (.lst [.ref s1])) R6 (.lst (List.replicate (8 : Int).toNat [V.ref s1]).flatten) = H20 at u4 r6 ⊢
    have u20 := u19.trans u4
    dsimp only [tNil, List.append_nil]
    refine ma_go (ex := fun b => b = p ∨ b = L) (ds := List.replicate 8 DD) (.inl (SqL.of r6)) rfl (rep_dv (dd_dv (u20 _ _ g1') (u20 _ _ g2') (u20 _ _ g3')) 8) (fun d m => by rw [d8 d m]; exact dd_cp) (fun e z => ?_) fun wn H21 s21 asN => ?_
    · rcases z with rfl | rfl
      · obtain ⟨_, _, hp, _⟩ := pen16.ex
        exact ⟨_, u20 _ _ hp⟩
      · exact ⟨_, u20 _ _ l16⟩
    have u21 := u20.trans s21
    have asN' : AsAt K CA (fun b => False) H21 wn (List.replicate 8 DD) := asN.less fun b z => z.elim
    have asW' : AsAt K CA (fun b => False) H21 wh (List.replicate 8 DD) := (asW16.less fun b z => z.elim).keep (KX.of u21)
    obtain ⟨dxn, vn, hn', _⟩ := asN'.ins
    have d8f : ∀ d ∈ List.replicate 8 DD, AFd d := fun d m => .inl (d8 d m)
    refine ⟨wh, dxw, _, .ref CA, rfl, u21 _ _ hwh, AA.ty _ _ _ _ hn', nfA, as_eq asW' asN' d8f d8f rfl rfl ⟨_, rfl, ?_⟩⟩
    rw [ceqs_refl d8f]
    exact q _ (pen16.mono u21 (by omega)) (kp16.trans (Kept.of u21))
end
end K27
end

section
set_option Elab.async false
set_option linter.all false
set_option maxRecDepth 100000
set_option maxHeartbeats 4000000
/-! != of lists that hold tuples with the very same instances -/
namespace KZ
open PySem PySem.Spec PyProof.Rows L2
/-- the same, so deep: data, the very same thing, tuples of such -/
inductive Smx (K : PySem.W.Frag) (H : Hp) : Nat → V → V → Prop
  | dat {n : Nat} {x y : V} {d : PyData} : 64 ≤ n → Dp K H x d → Dp K H y d → SeqAt.shaped d = true → Smx K H n x y
  | self {n : Nat} {x : V} : SelfV x → Smx K H n x x
  | tup {n : Nat} {a b : Addr} {xs ys : List V} : SqT K H a xs → SqT K H b ys → xs.length = ys.length → (∀ (j : Nat) (x y : V), xs[j]? = some x → ys[j]? = some y → Smx K H n x y) → Smx K H (n + 1) (.ref a) (.ref b)
section
variable {X : Cx} {pins : List (Addr × Obj)} {σ : L2.St} {H : Hp} {s : Shared}
theorem sqt_items (I : Inv X pins σ H s) {a b : Addr} {xs ys : List V} (h1 : SqT X.K H a xs) (h2 : SqT X.K H b ys) (hz : xs.length = ys.length) {D : V → V → Prop} (hd : ∀ (j : Nat) (x y : V), xs[j]? = some x → ys[j]? = some y → D x y) :
    ∃ us vs : Array Value, s.heap.IsTuple a us ∧ s.heap.IsTuple b vs ∧ us.size = vs.size ∧ ∀ j (h1 : j < us.size) (h2 : j < vs.size), ∃ x y, RelV x us[j] ∧ RelV y vs[j] ∧ D x y := by
  obtain ⟨us, r1, p1, _⟩ := I.tuple h1
  obtain ⟨vs, r2, p2, _⟩ := I.tuple h2
  have n1 := r1.length
  have n2 := r2.length
  refine ⟨us.toArray, vs.toArray, p1, p2, by rw [List.size_toArray, List.size_toArray]; omega, fun j j1 j2 => ?_⟩
  rw [List.size_toArray] at j1 j2
  have k1 : j < xs.length := by omega
  have k2 : j < ys.length := by omega
  obtain ⟨u, e1, q1⟩ := r1.get (List.getElem?_eq_getElem k1)
  obtain ⟨v, e2, q2⟩ := r2.get (List.getElem?_eq_getElem k2)
  rw [List.getElem?_eq_getElem j1] at e1
  rw [List.getElem?_eq_getElem j2] at e2
  refine ⟨xs[j], ys[j], ?_, ?_, hd j _ _ (List.getElem?_eq_getElem k1) (List.getElem?_eq_getElem k2)⟩
  · rw [List.getElem_toArray, Option.some.inj e1]
    exact q1
  · rw [List.getElem_toArray, Option.some.inj e2]
    exact q2
theorem Smx.tree (I : Inv X pins σ H s) {n : Nat} {x y : V} (h : Smx X.K H n x y) : ∀ {v u : Value}, RelV x v → RelV y u → PySem.W.EqTree X.prog X.w s n v u true := by
  induction h with
  | @dat n x y d hn h1 h2 s1 =>
    intro v u r1 r2
    obtain ⟨as, q1⟩ := Dp.reads I d x v h1 r1
    obtain ⟨bs, q2⟩ := Dp.reads I d y u h2 r2
    refine .leaf fun A hu => ?_
    have t := SeqAt.eqAt_reads d d A s v u as bs q1 q2 (SeqAt.canLay_of_shaped s1) (SeqAt.canLay_of_shaped s1) (SeqAt.room_of_shaped s1 (by omega))
    rwa [PySem.SeqAt.eqv_refl _ (SeqAt.canLay_of_shaped s1)] at t
  | self h =>
    intro v u r1 r2
    exact .leaf fun A _ => self_eq h r1 r2
  | @tup n a b xs ys h1 h2 hz hd ih =>
    intro v u r1 r2
    obtain rfl : v = Value.ref a := r1
    obtain rfl : u = Value.ref b := r2
    by_cases e : a = b
    · subst e
      exact .same
    · obtain ⟨us, vs, p1, p2, hs, hi⟩ := sqt_items I h1 h2 hz (D := fun x y => ∀ {v u : Value}, RelV x v → RelV y u → PySem.W.EqTree X.prog X.w s n v u true) fun j x y e1 e2 => ih j x y e1 e2
      have t := PySem.W.EqTree.tuples (prog := X.prog) (w := X.w) (n := n) (e := fun _ => true) e p1 p2 fun j j1 j2 => by
        obtain ⟨x, y, q1, q2, d⟩ := hi j j1 j2
        exact d q1 q2
      rwa [show ((List.range (min us.size vs.size)).all (fun _ => true) && us.size == vs.size) = true from by rw [hs, beq_self_eq_true, Bool.and_true]; exact List.all_eq_true.mpr fun _ _ => rfl] at t
/-- a list != a list: all is the same -/
def rNeX (K : PySem.W.Frag) : R2 := fun x y H Q => ∃ a b xs ys, x = .ref a ∧ y = .ref b ∧ SqL K H a xs ∧ SqL K H b ys ∧ xs.length = ys.length ∧ (∀ (j : Nat) (u v : V), xs[j]? = some u → ys[j]? = some v → Smx K H 70 u v) ∧ Q (.bl false) H
theorem op_neX (hu : X.A.units + 100 < cLine) : OpR X (compareOp .NotEq) (rNeX X.K) := by
  intro pins s σ H x y v u Q I rx ry h
  obtain ⟨a, b, xs, ys, rfl, rfl, h1, h2, hz, hd, q⟩ := h
  obtain rfl : v = Value.ref a := rx
  obtain rfl : u = Value.ref b := ry
  obtain ⟨us, vs, p1, p2, hs, hi⟩ := sq_items I h1 h2 hz hd
  refine rc_ne_same p1 p2 hs (by omega) (fun j j1 j2 => ?_) ⟨.bl _, H, I, rfl, q⟩
  obtain ⟨x, y, q1, q2, d⟩ := hi j j1 j2
  exact (d.tree I q1 q2).at _ (by show X.A.units + 1 + 70 < cLine; omega)
end
end KZ
end

section
set_option Elab.async false
set_option linter.all false
set_option maxRecDepth 100000
set_option maxHeartbeats 4000000
/-! papers made, compared -/
namespace K27
open PySem PySem.Spec L2 KZ
/-- at x: an instance, its fields stand apart from what ex says -/
def IxAt (K : PySem.W.Frag) (C : Addr) (names : List Str) (ex : Addr → Prop) (H : Hp) (x : Addr) (fvs : List FV) : Prop :=
  ∃ dx N vals, H x = some (.ins C dx (names.zip vals)) ∧ vals.length = names.length ∧ ¬ ex x ∧ Same N H ∧ NoFrz N ∧ (∀ e, ex e → N e = none) ∧ Fvs K N vals fvs
theorem IxAt.keep {K : PySem.W.Frag} {C : Addr} {names : List Str} {ex : Addr → Prop} {H H' : Hp} {x : Addr} {fvs : List FV} (k : KX ex H H') (h : IxAt K C names ex H x fvs) : IxAt K C names ex H' x fvs := by
  obtain ⟨dx, N, vals, h1, h2, h3, h4, h5, h6, h7⟩ := h
  exact ⟨dx, N, vals, k _ _ h3 h1, h2, h3, fun b o e => k _ _ (fun z => by rw [h6 b z] at e; cases e) (h4 _ _ e), h5, h6, h7⟩
theorem IxAt.mono {K : PySem.W.Frag} {C : Addr} {names : List Str} {ex : Addr → Prop} {H H' : Hp} {x : Addr} {fvs : List FV} (s : Same H H') (h : IxAt K C names ex H x fvs) : IxAt K C names ex H' x fvs := h.keep (KX.of s)
theorem ini_ix {K : PySem.W.Frag} {C x dx : Addr} {names : List Str} {ex : Addr → Prop} {H : Hp} {vals : List V} {fvs : List FV} {Q : Hp → Prop} (hx : H x = none) (hdx : H dx = none) (ne : dx ≠ x) (hl : fvs.length = names.length) (fv : Fvs K (offD H) vals fvs) (ok : ∀ f ∈ fvs, FvOk K 4 (offD H) f) (hex : ∀ e, ex e → ∃ xs, H e = some (.lst xs))
    (q : ∀ H', Same H H' → IxAt K C names ex H' x fvs → Q H') : spInitN 4 K C names (.ref x :: vals) (upd (upd H dx (.own x)) x (.ins C dx [])) (fun v H2 => v = .non ∧ Q H2) E0 := by
  refine ini_go2 (n := 3) (fvs := fvs) hx hdx ne ((Paired.length fv).trans hl) ok fv fun H' N vals' s off nf sm hx' fv' => q H' s ⟨dx, N, vals', hx', (Paired.length fv').trans hl, fun z => ?_, sm, nf, fun e z => ?_, fv'⟩
  · obtain ⟨xs, e⟩ := hex x z
    rw [hx] at e
    cases e
  · obtain ⟨xs, e2⟩ := hex e z
    exact off e (by rw [e2]; exact fun y => nomatch y)
def PlS (d : PyData) : Prop := nod d = true ∧ SeqAt.shaped d = true
theorem eqA_of {K : PySem.W.Frag} {H : Hp} {v u : V} {d e : PyData} (p1 : PlS d) (p2 : PlS e) (h1 : Dv K H v d) (h2 : Dv K H u e) : EqA K H v u (PyData.eqv d e) := .dat (Dv.dp h1 p1.1) (Dv.dp h2 p2.1) p1.2 p2.2
theorem neA_of {K : PySem.W.Frag} {H : Hp} {v u : V} {d e : PyData} (p1 : PlS d) (p2 : PlS e) (h1 : Dv K H v d) (h2 : Dv K H u e) : NeA K H v u (PyData.eqv d e) := .dat (Dv.dp h1 p1.1) (Dv.dp h2 p2.1) p1.2 p2.2
/-- a Kept of any data == what is kept -/
theorem kx_eq {K : PySem.W.Frag} {CK : Addr} {ex : Addr → Prop} {H : Hp} {x y : Addr} {a b c : PyData} {t : T3} {Q : VK} {E : XK} (h1 : IxAt K CK kF ex H x [.dat a, .dat b, .dat c]) (h2 : KtAt K CK H y t) (ok : t.Ok) (pa : PlS a) (pb : PlS b) (pc : PlS c)
    (q : Q (.bl (PyData.eqv a t.d1 && (PyData.eqv b t.d2 && PyData.eqv c t.d3))) H) : spEqC K CK kF (rKE K) [.ref x, .ref y] H Q E := by
  obtain ⟨dx, N, vals, e1, l1, _, s, _, _, fv⟩ := h1
  obtain ⟨dy, v, u, w, e2, a1, a2, a3⟩ := h2
  cases fv with | cons f1 fv =>
  cases fv with | cons f2 fv =>
  cases fv with | cons f3 fv =>
  cases fv
  exact ⟨x, .ref y, dx, _, rfl, e1, rfl, .inl ⟨y, dy, [v, u, w], _, rfl, e2, rfl, ⟨_, _, _, _, _, _, _, _, _, rfl, rfl, eqA_of pa ⟨t.nod.1, T3.sh1 ok⟩ (Dv.mono s f1) a1, eqA_of pb ⟨t.nod.2.1, t.sh2.1⟩ (Dv.mono s f2) a2, eqA_of pc ⟨t.nod.2.2, t.sh2.2⟩ (Dv.mono s f3) a3, rfl⟩, q⟩⟩
/-- two letters, compared -/
theorem lx_eq {K : PySem.W.Frag} {CL : Addr} {ex ey : Addr → Prop} {H : Hp} {x y : Addr} {a b c d a' b' c' d' : PyData} {xs ys : List V} {r : Bool} {Q : VK} {E : XK} (h1 : IxAt K CL lF ex H x [.dat a, .dat b, .dat c, .dat d, .its xs]) (h2 : IxAt K CL lF ey H y [.dat a', .dat b', .dat c', .dat d', .its ys])
    (pa : PlS a) (pb : PlS b) (pc : PlS c) (pd : PlS d) (pa' : PlS a') (pb' : PlS b') (pc' : PlS c') (pd' : PlS d') (h5 : ∀ t u, SqT K H t xs → SqT K H u ys → EqA K H (.ref t) (.ref u) r)
    (q : Q (.bl (PyData.eqv a a' && (PyData.eqv b b' && (PyData.eqv c c' && (PyData.eqv d d' && r))))) H) : spEqC K CL lF (rLE K) [.ref x, .ref y] H Q E := by
  obtain ⟨dx, N, vals, e1, l1, _, s, _, _, fv⟩ := h1
  obtain ⟨dy, M, us, e2, l2, _, s2, _, _, gv⟩ := h2
  cases fv with | cons f1 fv =>
  cases fv with | cons f2 fv =>
  cases fv with | cons f3 fv =>
  cases fv with | cons f4 fv =>
  cases fv with | cons f5 fv =>
  cases fv
  cases gv with | cons g1 gv =>
  cases gv with | cons g2 gv =>
  cases gv with | cons g3 gv =>
  cases gv with | cons g4 gv =>
  cases gv with | cons g5 gv =>
  cases gv
  obtain ⟨t, rfl, ht⟩ := f5
  obtain ⟨u, rfl, hu⟩ := g5
  exact ⟨x, .ref y, dx, _, rfl, e1, rfl, .inl ⟨y, dy, _, _, rfl, e2, rfl, ⟨_, _, _, _, _, _, _, _, _, _, _, _, _, _, _, rfl, rfl, neA_of pa pa' (Dv.mono s f1) (Dv.mono s2 g1), neA_of pb pb' (Dv.mono s f2) (Dv.mono s2 g2), neA_of pc pc' (Dv.mono s f3) (Dv.mono s2 g3), eqA_of pd pd' (Dv.mono s f4) (Dv.mono s2 g4), h5 t u (SqT.of (s _ _ ht)) (SqT.of (s2 _ _ hu)), rfl⟩, q⟩⟩
/-- the fields of a letter -/
theorem IxAt.letter {K : PySem.W.Frag} {CL : Addr} {ex : Addr → Prop} {H : Hp} {x : Addr} {a b c d : PyData} {xs : List V} (h : IxAt K CL lF ex H x [.dat a, .dat b, .dat c, .dat d, .its xs]) :
    ∃ dx v1 v2 v3 v4 t, H x = some (.ins CL dx (lF.zip [v1, v2, v3, v4, .ref t])) ∧ Dv K H v1 a ∧ Dv K H v2 b ∧ Dv K H v3 c ∧ Dv K H v4 d ∧ H t = some (.tup xs) := by
  obtain ⟨dx, N, vals, e1, l1, _, s, _, _, fv⟩ := h
  cases fv with | cons f1 fv =>
  cases fv with | cons f2 fv =>
  cases fv with | cons f3 fv =>
  cases fv with | cons f4 fv =>
  cases fv with | cons f5 fv =>
  cases fv
  obtain ⟨t, rfl, ht⟩ := f5
  exact ⟨dx, _, _, _, _, t, e1, Dv.mono s f1, Dv.mono s f2, Dv.mono s f3, Dv.mono s f4, s _ _ ht⟩
/-- the five fields, each a datum -/
theorem IxAt.five {K : PySem.W.Frag} {CL : Addr} {ex : Addr → Prop} {H : Hp} {x : Addr} {d : PyData} (h : IxAt K CL lF ex H x [.dat d, .dat d, .dat d, .dat d, .dat d]) :
    ∃ dx v1 v2 v3 v4 v5, H x = some (.ins CL dx (lF.zip [v1, v2, v3, v4, v5])) ∧ Dv K H v1 d ∧ Dv K H v2 d ∧ Dv K H v3 d ∧ Dv K H v4 d ∧ Dv K H v5 d := by
  obtain ⟨dx, N, vals, e1, l1, _, s, _, _, fv⟩ := h
  cases fv with | cons f1 fv =>
  cases fv with | cons f2 fv =>
  cases fv with | cons f3 fv =>
  cases fv with | cons f4 fv =>
  cases fv with | cons f5 fv =>
  cases fv
  exact ⟨dx, _, _, _, _, _, e1, Dv.mono s f1, Dv.mono s f2, Dv.mono s f3, Dv.mono s f4, Dv.mono s f5⟩
/-- a dict of one datum, as it stands in a copy -/
theorem dic_at {K : PySem.W.Frag} {N H : Hp} {v : V} {d : PyData} (s : Same N H) (nf : NoFrz N) (h : Dv K N v (.dict [(.str "a", d)])) : ∃ a l, v = .ref a ∧ H a = some (.dK [(Sum.inr "a", l)]) ∧ Dv K H l d := by
  cases h with
  | @dic c kvs _ hc hk =>
    obtain ⟨l, rfl, hl⟩ := dks_a hk
    refine ⟨c, l, rfl, ?_, Dv.mono s hl⟩
    rcases hc with z | ⟨o, z⟩
    · exact s _ _ z
    · exact absurd z (nf _ _ _)
/-- of a Kept: a datum, a dict of it -/
theorem IxAt.kept {K : PySem.W.Frag} {CK : Addr} {ex : Addr → Prop} {H : Hp} {x : Addr} {d e f : PyData} (h : IxAt K CK kF ex H x [.dat d, .dat (.dict [(.str "a", e)]), .dat f]) :
    ∃ dx v1 a l v3, H x = some (.ins CK dx (kF.zip [v1, .ref a, v3])) ∧ Dv K H v1 d ∧ H a = some (.dK [(Sum.inr "a", l)]) ∧ Dv K H l e := by
  obtain ⟨dx, N, vals, e1, l1, _, s, nf, _, fv⟩ := h
  cases fv with | cons f1 fv =>
  cases fv with | cons f2 fv =>
  cases fv with | cons f3 fv =>
  cases fv
  obtain ⟨a, l, rfl, h1, h2⟩ := dic_at s nf f2
  exact ⟨dx, _, a, l, _, e1, Dv.mono s f1, h1, h2⟩
/-- xs[:at] + [odd] + xs[at + 1:] -/
theorem bent_go {K : PySem.W.Frag} {j i : Nat} {σ : L2.St} {H : Hp} {F : Addr} {xs : List V} {ov : V} {Q : VK} (hF : H F = some (.lst xs)) (h1 : σ[j]? = some (some (.ref F))) (h2 : σ[3]? = some (some (.int (i : Int)))) (h3 : σ[4]? = some (some ov)) (hi : i < xs.length) (hl : xs.length ≤ 100)
    (q : ∀ B H', Same H H' → H' B = some (.lst (xs.set i ov)) → Q (.ref B) H') :
    tOp rCat (tOp rCat (tSl (rSlL K) (tVar j) tNoPart (tPart (tVar 3))) (tLst (tCons (tVar 4) tNil))) (tSl (rSlL K) (tVar j) (tPart (tOp (rI0 fun i j => V.int (i + j)) (tVar 3) (tC (.int 1)))) tNoPart) σ H Q := by
  refine ⟨.ref F, h1, .int (i : Int), h2, (i : Int), rfl, F, _, rfl, SqL.of hF, fun p1 hp1 => ?_⟩
  rw [cut_take (Nat.le_of_lt hi)]
  have u1 := same_new (o := .lst (xs.take i)) hp1
  have v1 : (upd H p1 (.lst (xs.take i))) p1 = some (.lst (xs.take i)) := upd_same
  generalize upd H p1 (.lst (xs.take i)) = H1 at u1 v1 ⊢
  refine ⟨ov, h3, by show 1 ≤ sizeLine; decide, fun p2 hp2 => ?_⟩
  have u2 := same_new (o := .lst [ov]) hp2
  have v2 : (upd H1 p2 (.lst [ov])) p2 = some (.lst [ov]) := upd_same
  generalize upd H1 p2 (.lst [ov]) = H2 at u2 v2 ⊢
  refine ⟨p1, p2, _, _, rfl, rfl, u2 _ _ v1, v2, ?_, fun p3 hp3 => ?_⟩
  · rw [List.length_take, sizeLine_eq]
    show min i xs.length + 1 ≤ 16777216
    omega
  have u3 := same_new (o := .lst (xs.take i ++ [ov])) hp3
  have v3 : (upd H2 p3 (.lst (xs.take i ++ [ov]))) p3 = some (.lst (xs.take i ++ [ov])) := upd_same
  generalize upd H2 p3 (.lst (xs.take i ++ [ov])) = H3 at u3 v3 ⊢
  refine ⟨.ref F, h1, .int (i : Int), h2, (i : Int), 1, rfl, rfl, (i : Int) + 1, rfl, F, _, rfl, SqL.of (u3 _ _ (u2 _ _ (u1 _ _ hF))), fun p4 hp4 => ?_⟩
  rw [show ((i : Int) + 1) = ((i + 1 : Nat) : Int) by omega, cut_drop hi]
  have u4 := same_new (o := .lst (xs.drop (i + 1))) hp4
  have v4 : (upd H3 p4 (.lst (xs.drop (i + 1)))) p4 = some (.lst (xs.drop (i + 1))) := upd_same
  generalize upd H3 p4 (.lst (xs.drop (i + 1))) = H4 at u4 v4 ⊢
  refine ⟨p3, p4, _, _, rfl, rfl, u4 _ _ v3, v4, ?_, fun p5 hp5 => ?_⟩
  · rw [List.length_append, List.length_take, List.length_drop, sizeLine_eq]
    show min i xs.length + 1 + (xs.length - (i + 1)) ≤ 16777216
    omega
  rw [set_cat hi]
  exact q p5 _ (u1.trans (u2.trans (u3.trans (u4.trans (same_new hp5))))) upd_same
/-- what is told of a Kept, part by part -/
theorem tp_parts {K : PySem.W.Frag} {H : Hp} {a : Addr} {t : T3} (h : TpAt H a t) : ∃ s, H a = some (.tup [.ref s, t.v2, t.v3]) ∧ ∀ H', Same H H' → Dv K (offD H') (.ref s) t.d1 ∧ Dv K (offD H') t.v2 t.d2 ∧ Dv K (offD H') t.v3 t.d3 := by
  obtain ⟨s, h1, h2⟩ := h
  refine ⟨s, h1, fun H' sm => ⟨.tup (SqT.of (off_at (sm _ _ h2) fun _ _ z => nomatch z)) (.cons (.int _) (.cons (.str _) .nil)), ?_, ?_⟩⟩
  · cases t
    · exact .non
    · exact .int _
  · cases t
    · exact .non
    · exact .int _
theorem cp_ts {n : Nat} {i : Int} {x : Str} : Cp (n + 1) (.tuple [.int i, .str x]) := ⟨by show 2 ≤ 2000; decide, fun d m => by
  simp only [List.mem_cons, List.not_mem_nil, or_false] at m
  rcases m with rfl | rfl
  · cases n <;> exact True.intro
  · cases n <;> exact True.intro⟩
theorem cp_d2 {n : Nat} {t : T3} : Cp n t.d2 ∧ Cp n t.d3 := by
  cases t <;> cases n <;> exact ⟨True.intro, True.intro⟩
theorem far_d1 {t : T3} (ok : t.Ok) {x : Str} : PyData.eqv (.tuple [.int 9, .str x]) t.d1 = false := by
  unfold T3.d1
  rw [eqv_tis]
  have : ((9 : Int) == t.st.1) = false := by
    cases t with
    | no => decide
    | so n y p v =>
      have := ok.2.1
      show ((9 : Int) == (n : Int)) = false
      simpa using (by omega : ¬ ((9 : Int) = (n : Int)))
  rw [this, Bool.false_and]
theorem far_d2 {t : T3} (ok : t.Ok) : PyData.eqv (.int 77) t.d2 = false := by
  cases t with
  | no => rfl
  | so n y p v =>
    have := ok.2.2.2.2.1
    show ((77 : Int) == p) = false
    simpa using (by omega : ¬ ((77 : Int) = p))
theorem far_d3 {t : T3} : PyData.eqv (.list [.int 3]) t.d3 = false := by cases t <;> rfl
/-- the parts of a Kept, one of them bent -/
theorem bent_kept {K : PySem.W.Frag} {HB : Hp} {s T9 l3 : Addr} {t : T3} (ok : t.Ok) (hs : ∀ H', Same HB H' → Dv K (offD H') (.ref s) t.d1 ∧ Dv K (offD H') t.v2 t.d2 ∧ Dv K (offD H') t.v3 t.d3) (h9 : HB T9 = some (.tup [.int 9, .str "ann"])) (h3 : HB l3 = some (.lst [.int 3])) {i : Nat} {ov : V} (e : [V.ref T9, V.int 77, V.ref l3][i]? = some ov) :
    ∃ w0 w1 w2 a b c, [V.ref s, t.v2, t.v3].set i ov = [w0, w1, w2] ∧ (∀ H', Same HB H' → Fvs K (offD H') [w0, w1, w2] [.dat a, .dat b, .dat c]) ∧ (∀ H', ∀ f ∈ [FV.dat a, .dat b, .dat c], FvOk K 4 (offD H') f) ∧ PlS a ∧ PlS b ∧ PlS c ∧ (PyData.eqv a t.d1 && (PyData.eqv b t.d2 && PyData.eqv c t.d3)) = false := by
  have p1 : PlS t.d1 := ⟨t.nod.1, T3.sh1 ok⟩
  have p2 : PlS t.d2 := ⟨t.nod.2.1, t.sh2.1⟩
  have p3 : PlS t.d3 := ⟨t.nod.2.2, t.sh2.2⟩
  have c1 : Cp 4 t.d1 := cp_ts
  obtain ⟨c2, c3⟩ := cp_d2 (n := 4) (t := t)
  have three : ∀ {a b c : PyData} {H' : Hp}, Cp 4 a → Cp 4 b → Cp 4 c → ∀ f ∈ [FV.dat a, .dat b, .dat c], FvOk K 4 (offD H') f := fun x y z f m => by
    simp only [List.mem_cons, List.not_mem_nil, or_false] at m
    rcases m with rfl | rfl | rfl
    · exact x
    · exact y
    · exact z
  match i, e with
  | 0, e =>
    cases e
    refine ⟨_, _, _, .tuple [.int 9, .str "ann"], t.d2, t.d3, rfl, fun H' sm => ?_, fun H' => three cp_ts c2 c3, ⟨rfl, by decide +kernel⟩, p2, p3, ?_⟩
    · obtain ⟨_, y, z⟩ := hs H' sm
      exact .cons (.tup (SqT.of (off_at (sm _ _ h9) fun _ _ z => nomatch z)) (.cons (.int _) (.cons (.str _) .nil))) (.cons y (.cons z .nil))
    · rw [far_d1 ok, Bool.false_and]
  | 1, e =>
    cases e
    refine ⟨_, _, _, t.d1, .int 77, t.d3, rfl, fun H' sm => ?_, fun H' => three c1 True.intro c3, p1, ⟨rfl, rfl⟩, p3, ?_⟩
    · obtain ⟨x, _, z⟩ := hs H' sm
      exact .cons x (.cons (.int _) (.cons z .nil))
    · rw [far_d2 ok, Bool.false_and, Bool.and_false]
  | 2, e =>
    cases e
    refine ⟨_, _, _, t.d1, t.d2, .list [.int 3], rfl, fun H' sm => ?_, fun H' => three c1 c2 ⟨by show 1 ≤ 2000; decide, fun d m => by rw [List.mem_singleton.mp m]; exact True.intro⟩, p1, p2, ⟨rfl, rfl⟩, ?_⟩
    · obtain ⟨x, y, _⟩ := hs H' sm
      exact .cons x (.cons y (.cons (.lst (SqL.of (off_at (sm _ _ h3) fun _ _ z => nomatch z)) (.cons (.int _) .nil)) .nil))
    · rw [far_d3, Bool.and_false, Bool.and_false]
/-- the parts of a letter -/
def plP (kb : Addr) : List V := [.int 0, .int 1, .int 0, .int 5, .ref kb]
def plQ (kb : Addr) : List V := [.int 0, .int 1, .int 0, .int 6, .ref kb]
theorem self_plP {kb : Addr} {j : Nat} {z : V} (h : (plP kb)[j]? = some z) : SelfV z := by
  match j, h with
  | 0, h => cases h; exact .inl ⟨_, rfl⟩
  | 1, h => cases h; exact .inl ⟨_, rfl⟩
  | 2, h => cases h; exact .inl ⟨_, rfl⟩
  | 3, h => cases h; exact .inl ⟨_, rfl⟩
  | 4, h => cases h; exact .inr ⟨_, rfl⟩
theorem plP_eq {K : PySem.W.Frag} {H : Hp} {kb t u : Addr} (h1 : SqT K H t (plP kb)) (h2 : SqT K H u (plP kb)) : EqA K H (.ref t) (.ref u) true := by
  refine .pre 5 h1 h2 rfl (fun j _ hj => ?_) fun z => absurd z (Nat.lt_irrefl 5)
  exact ⟨(plP kb)[j], List.getElem?_eq_getElem hj, List.getElem?_eq_getElem hj, self_plP (List.getElem?_eq_getElem hj)⟩
theorem plP_ne {K : PySem.W.Frag} {H : Hp} {kb kc t u : Addr} (h1 : SqT K H t (plQ kc)) (h2 : SqT K H u (plP kb)) : EqA K H (.ref t) (.ref u) false := by
  refine .pre 3 h1 h2 rfl (fun j j3 hj => ?_) fun _ => ⟨6, 5, rfl, rfl, by decide⟩
  match j, j3 with
  | 0, _ => exact ⟨_, rfl, rfl, .inl ⟨_, rfl⟩⟩
  | 1, _ => exact ⟨_, rfl, rfl, .inl ⟨_, rfl⟩⟩
  | 2, _ => exact ⟨_, rfl, rfl, .inl ⟨_, rfl⟩⟩
theorem leaf_pl {K : PySem.W.Frag} {CK : Addr} {mg : Str → Option Value} (AK : ClsF K mg "Kept" CK kF) {H : Hp} {kb : Addr} {t : T3} (h : KtAt K CK H kb t) {i4 : Int} : ∀ x ∈ [V.int 0, .int 1, .int 0, .int i4, .ref kb], LeafT K (offD H) x := by
  obtain ⟨dx, v, u, w, e, _⟩ := h
  intro x m
  simp only [List.mem_cons, List.not_mem_nil, or_false] at m
  rcases m with rfl | rfl | rfl | rfl | rfl
  · exact leaf_int _
  · exact leaf_int _
  · exact leaf_int _
  · exact leaf_int _
  · exact AK.leafT (off_at e fun _ _ z => nomatch z)
theorem pls_int (i : Int) : PlS (.int i) := ⟨rfl, rfl⟩
theorem pls_s1 : PlS (.str "ann") ∧ PlS (.str "keep") ∧ PlS (.str "kept") := ⟨⟨rfl, by decide +kernel⟩, ⟨rfl, by decide +kernel⟩, ⟨rfl, by decide +kernel⟩⟩
/-- a letter, one part of it bent -/
theorem bent_letter {K : PySem.W.Frag} {CK : Addr} {mg : Str → Option Value} (AK : ClsF K mg "Kept" CK kF) {HB : Hp} {P5 P6 kb kc : Addr} {t : T3} (h5 : HB P5 = some (.tup (plP kb))) (h6 : HB P6 = some (.tup (plQ kc))) (k5 : KtAt K CK HB kb t) (k6 : KtAt K CK HB kc t) {i : Nat} {ov : V} (e : [V.int 4, .non, .str "ann", .str "kept", .ref P6][i]? = some ov) :
    ∃ w0 w1 w2 w3 w4 a b c d xs r, [V.int 3, .str "ann", .int 10, .str "keep", .ref P5].set i ov = [w0, w1, w2, w3, w4] ∧ (∀ H', Same HB H' → Fvs K (offD H') [w0, w1, w2, w3, w4] [.dat a, .dat b, .dat c, .dat d, .its xs] ∧ ∀ f ∈ [FV.dat a, .dat b, .dat c, .dat d, .its xs], FvOk K 4 (offD H') f) ∧
      PlS a ∧ PlS b ∧ PlS c ∧ PlS d ∧ (∀ H' t u, SqT K H' t xs → SqT K H' u (plP kb) → EqA K H' (.ref t) (.ref u) r) ∧ (PyData.eqv a (.int 3) && (PyData.eqv b (.str "ann") && (PyData.eqv c (.int 10) && (PyData.eqv d (.str "keep") && r)))) = false := by
  obtain ⟨s1, s2, s3⟩ := pls_s1
  have o5 : ∀ {H' : Hp}, Same HB H' → FvAt K (offD H') (.ref P5) (.its (plP kb)) := fun sm => ⟨P5, rfl, off_at (sm _ _ h5) fun _ _ z => nomatch z⟩
  have o6 : ∀ {H' : Hp}, Same HB H' → FvAt K (offD H') (.ref P6) (.its (plQ kc)) := fun sm => ⟨P6, rfl, off_at (sm _ _ h6) fun _ _ z => nomatch z⟩
  have l5 : ∀ {H' : Hp}, Same HB H' → FvOk K 4 (offD H') (.its (plP kb)) := fun sm => ⟨by show 5 ≤ 1000; decide, leaf_pl AK (k5.mono sm)⟩
  have l6 : ∀ {H' : Hp}, Same HB H' → FvOk K 4 (offD H') (.its (plQ kc)) := fun sm => ⟨by show 5 ≤ 1000; decide, leaf_pl AK (k6.mono sm)⟩
  have five : ∀ {a b c d : PyData} {xs : List V} {H' : Hp}, Cp 4 a → Cp 4 b → Cp 4 c → Cp 4 d → FvOk K 4 (offD H') (.its xs) → ∀ f ∈ [FV.dat a, .dat b, .dat c, .dat d, .its xs], FvOk K 4 (offD H') f := fun x y z u v f m => by
    simp only [List.mem_cons, List.not_mem_nil, or_false] at m
    rcases m with rfl | rfl | rfl | rfl | rfl
    · exact x
    · exact y
    · exact z
    · exact u
    · exact v
  match i, e with
  | 0, e =>
    cases e
    exact ⟨_, _, _, _, _, .int 4, .str "ann", .int 10, .str "keep", plP kb, true, rfl, fun H' sm => ⟨.cons (.int _) (.cons (.str _) (.cons (.int _) (.cons (.str _) (.cons (o5 sm) .nil)))), five True.intro True.intro True.intro True.intro (l5 sm)⟩, pls_int _, s1, pls_int _, s2, fun _ _ _ x y => plP_eq x y, rfl⟩
  | 1, e =>
    cases e
    exact ⟨_, _, _, _, _, .int 3, .none, .int 10, .str "keep", plP kb, true, rfl, fun H' sm => ⟨.cons (.int _) (.cons .non (.cons (.int _) (.cons (.str _) (.cons (o5 sm) .nil)))), five True.intro True.intro True.intro True.intro (l5 sm)⟩, pls_int _, ⟨rfl, rfl⟩, pls_int _, s2, fun _ _ _ x y => plP_eq x y, by decide +kernel⟩
  | 2, e =>
    cases e
    exact ⟨_, _, _, _, _, .int 3, .str "ann", .str "ann", .str "keep", plP kb, true, rfl, fun H' sm => ⟨.cons (.int _) (.cons (.str _) (.cons (.str _) (.cons (.str _) (.cons (o5 sm) .nil)))), five True.intro True.intro True.intro True.intro (l5 sm)⟩, pls_int _, s1, s1, s2, fun _ _ _ x y => plP_eq x y, by decide +kernel⟩
  | 3, e =>
    cases e
    exact ⟨_, _, _, _, _, .int 3, .str "ann", .int 10, .str "kept", plP kb, true, rfl, fun H' sm => ⟨.cons (.int _) (.cons (.str _) (.cons (.int _) (.cons (.str _) (.cons (o5 sm) .nil)))), five True.intro True.intro True.intro True.intro (l5 sm)⟩, pls_int _, s1, pls_int _, s3, fun _ _ _ x y => plP_eq x y, by decide +kernel⟩
  | 4, e =>
    cases e
    exact ⟨_, _, _, _, _, .int 3, .str "ann", .int 10, .str "keep", plQ kc, false, rfl, fun H' sm => ⟨.cons (.int _) (.cons (.str _) (.cons (.int _) (.cons (.str _) (.cons (o6 sm) .nil)))), five True.intro True.intro True.intro True.intro (l6 sm)⟩, pls_int _, s1, pls_int _, s2, fun _ _ _ x y => plP_ne x y, by decide +kernel⟩
/-- the letter itself -/
theorem let_fv {K : PySem.W.Frag} {CK : Addr} {mg : Str → Option Value} (AK : ClsF K mg "Kept" CK kF) {HB : Hp} {P5 kb : Addr} {t : T3} (h5 : HB P5 = some (.tup (plP kb))) (k5 : KtAt K CK HB kb t) {H' : Hp} (sm : Same HB H') :
    Fvs K (offD H') [.int 3, .str "ann", .int 10, .str "keep", .ref P5] [.dat (.int 3), .dat (.str "ann"), .dat (.int 10), .dat (.str "keep"), .its (plP kb)] ∧ ∀ f ∈ [FV.dat (.int 3), .dat (.str "ann"), .dat (.int 10), .dat (.str "keep"), .its (plP kb)], FvOk K 4 (offD H') f := by
  refine ⟨.cons (.int _) (.cons (.str _) (.cons (.int _) (.cons (.str _) (.cons ⟨P5, rfl, off_at (sm _ _ h5) fun _ _ z => nomatch z⟩ .nil)))), fun f m => ?_⟩
  simp only [List.mem_cons, List.not_mem_nil, or_false] at m
  rcases m with rfl | rfl | rfl | rfl | rfl
  · exact True.intro
  · exact True.intro
  · exact True.intro
  · exact True.intro
  · exact ⟨by show 5 ≤ 1000; decide, leaf_pl AK (k5.mono sm)⟩
theorem smx_fields {K : PySem.W.Frag} {H : Hp} {v1 v2 v3 v4 : V} {t P5 kb : Addr} (d1 : Dv K H v1 (.int 3)) (d2 : Dv K H v2 (.str "ann")) (d3 : Dv K H v3 (.int 10)) (d4 : Dv K H v4 (.str "keep")) (ht : H t = some (.tup (plP kb))) (h5 : H P5 = some (.tup (plP kb))) (j : Nat) (u v : V)
    (hu : [v1, v2, v3, v4, .ref t][j]? = some u) (hv : [V.int 3, .str "ann", .int 10, .str "keep", .ref P5][j]? = some v) : Smx K H 70 u v := by
  obtain ⟨s1, s2, _⟩ := pls_s1
  match j, hu, hv with
  | 0, hu, hv => cases hu; cases hv; exact .dat (by decide) (Dv.dp d1 rfl) (.int 3) rfl
  | 1, hu, hv => cases hu; cases hv; exact .dat (by decide) (Dv.dp d2 rfl) (.str "ann") s1.2
  | 2, hu, hv => cases hu; cases hv; exact .dat (by decide) (Dv.dp d3 rfl) (.int 10) rfl
  | 3, hu, hv => cases hu; cases hv; exact .dat (by decide) (Dv.dp d4 rfl) (.str "keep") s2.2
  | 4, hu, hv =>
    cases hu
    cases hv
    refine .tup (n := 69) (SqT.of ht) (SqT.of h5) rfl fun j x y hx hy => ?_
    cases hx.symm.trans hy
    exact .self (self_plP hx)
/-- [1, [2]] -/
abbrev L12 : PyData := .list [.int 1, .list [.int 2]]
theorem l12_cp : Cp 4 L12 ∧ Cp 3 L12 := ⟨⟨by show 2 ≤ 2000; decide, fun d m => by
  simp only [List.mem_cons, List.not_mem_nil, or_false] at m
  rcases m with rfl | rfl
  · exact True.intro
  · exact ⟨by show 1 ≤ 2000; decide, fun d m => by rw [List.mem_singleton.mp m]; exact True.intro⟩⟩, ⟨by show 2 ≤ 2000; decide, fun d m => by
  simp only [List.mem_cons, List.not_mem_nil, or_false] at m
  rcases m with rfl | rfl
  · exact True.intro
  · exact ⟨by show 1 ≤ 2000; decide, fun d m => by rw [List.mem_singleton.mp m]; exact True.intro⟩⟩⟩
theorem l12_dv {K : PySem.W.Frag} {H : Hp} {a s : Addr} (h1 : H a = some (.lst [.int 2])) (h2 : H s = some (.lst [.int 1, .ref a])) : Dv K (offD H) (.ref s) L12 :=
  .lst (SqL.of (off_at h2 fun _ _ z => nomatch z)) (.cons (.int 1) (.cons (.lst (SqL.of (off_at h1 fun _ _ z => nomatch z)) (.cons (.int 2) .nil)) .nil))
theorem l12_dp {K : PySem.W.Frag} {H : Hp} {a s : Addr} (h1 : H a = some (.lst [.int 2])) (h2 : H s = some (.lst [.int 1, .ref a])) : Dp K H (.ref s) L12 :=
  .lst (SqL.of h2) (.cons (.int 1) (.cons (.lst (SqL.of h1) (.cons (.int 2) .nil)) .nil))
theorem l12_dd {K : PySem.W.Frag} {H : Hp} {v : V} (h : Dv K H v L12) : Dp K H v L12 := Dv.dp h rfl
theorem dic_new {H : Hp} {d : Addr} {kvs : List (Key × V)} (h : H d = none) : Same H (upd (upd H d (.dK [])) d (.dK kvs)) := fun b o e => by
  have n := ne_of_none e h
  rw [upd_ne n, upd_ne n]
  exact e
theorem kx_pop {H : Hp} {a : Addr} {o : HO} : KX (fun b => b = a) H (upd H a o) := fun b u nb e => by
  rw [upd_ne nb]
  exact e
end K27
end

section
set_option Elab.async false
set_option linter.all false
set_option maxRecDepth 100000
set_option maxHeartbeats 4000000
/-! papers -/
namespace K27
open PySem PySem.Spec L2 KZ
abbrev sPR : Stmt := top 30
theorem none_keptP {p c : Addr} {cells : List Int} {n : Nat} {H H' : Hp} {a : Addr} (k : Kept p H H') (pen : PenAt H' p c cells n) (h : H' a = none) : H a = none := by
  cases e : H a with
  | none => rfl
  | some o =>
    have z := k a o (pen.nn h).1 e
    rw [h] at z
    cases z
/-- a letter made, by keywords too; compared -/
structure LetA (P : Program) (w : World) (K : PySem.W.Frag) (mg : Str → Option Value) (base : Heap) (CK CL : Addr) : Prop where
  A : ClsF K mg "Letter" CL lF
  eq : ∃ f fd, FnOk P w K mg base CX0 1 f fd ["self", "other"] (spEqC K CL lF (rLE K)) ∧ OwnEqF K CL f fd ["self", "other"] ∧ PySem.W.notFirst K CL (.ref CL) = true ∧ PySem.W.notFirst K CL (.type "list") = true
  mak : ∃ f fd, Mk K CL f ∧ FnOk P w K mg base CX0 6 f fd (("self" : Str) :: lF) (spInitN 4 K CL lF) ∧ Binds K fd (("self" : Str) :: lF) [] ∧ ∃ g, KBn K fd (("self" : Str) :: lF) 1 lF.reverse g fun vs zs => vs ++ zs.reverse
section
variable {P : Program} {w : World} {K : PySem.W.Frag} {mg : Str → Option Value} {base : Heap} {CK CH CL cB fIt : Addr}
theorem scPR : FnScope ["well", "told", "parts", "at", "odd", "bent", "rows", "letter", "fields", "some", "paper", "held"] ["well"] (defScope sPR) := ⟨rfl, rfl, rfl, by decide +kernel, rfl, by decide +kernel, by decide +kernel⟩
theorem ok_pr {f : Addr} {fd : FuncData} (F : Fun K "_law_papers_right" "_law_papers_right" sPR f fd) (T : B1 mg) (HF : HoF P w K mg base CK CH cB fIt) (MC : MkC P w K mg base CK kF) (LE : LetA P w K mg base CK CL) (made : Cal P w K mg base "_law_made" 5 ["told"] (spLM K CK)) (kept : Cal P w K mg base "_law_kept" 3 ["well"] spLK) : FnOk P w K mg base CX0 13 f fd ["well"] spYes := by
  obtain ⟨fM, dM, gM, GM, kM, bM⟩ := made.ex
  obtain ⟨fKp, dKp, gKp, GKp, kKp, bKp⟩ := kept.ex
  obtain ⟨fKe, dKe, FKe, OKe, nfK⟩ := HF.ke
  obtain ⟨fLe, dLe, FLe, OLe, nfL, nfLL⟩ := LE.eq
  obtain ⟨fIK, dIK, MKK, GIK, bIK⟩ := MC.ex 3
  obtain ⟨fIL, dIL, MKL, GIL, bIL, gL, kbL⟩ := LE.mak
  have AK := HF.AK
  have AL := LE.A
  refine F.ok scPR (fun vs H Q E h => ?_) (fun cdv A' outer s H vs Q E hr h => ?_)
  · obtain ⟨p, c, cells, n, rfl, _⟩ := h
    rfl
  · obtain ⟨p, c, cells, n, rfl, pen, hn, q⟩ := h
    have hr7 : Room 7 _ := hr.mono (by decide)
    have hr5 : Room 5 _ := hr.mono (by decide)
    have hr3 : Room 3 _ := hr.mono (by decide)
    have hr2 : Room 2 _ := hr.mono (by decide)
    have hr1 : Room 1 _ := hr.mono (by decide)
    have hr0 : Room 0 _ := hr.mono (by decide)
    have hu100 := Nat.lt_of_le_of_lt (Nat.add_le_add_left (show 100 ≤ 16 * 0 + 200 by decide) _) (by have := hr0.un; rwa [Nat.add_assoc] at this)
    refine ⟨_, (pss_cons (ps_set (i := 1) scPR.nd rfl (Or.inl rfl) (pe_call GKp hr3 (by rfl) gKp kKp bKp .nil pass0 (pa_cons (pv 0) pa_nil)))
(pss_cons (ps_set (i := 2) scPR.nd rfl (Or.inl rfl) (pe_lst (pa_cons (pe_ix (ix_seqK K) (pv 1) pe_int (fun _ _ => rfl)) (pa_cons (pe_ix (ix_seqK K) (pv 1) pe_int (fun _ _ => rfl)) (pa_cons (pe_ix (ix_seqK K) (pv 1) pe_int (fun _ _ => rfl)) pa_nil)))))
(pss_cons (ps_for PassesOwn.never rfl (pi_tup (pe_tup (pa_cons (pe_tup (pa_cons pe_int (pa_cons (pe_tup (pa_cons pe_int (pa_cons pe_str pa_nil))) pa_nil))) (pa_cons (pe_tup (pa_cons pe_int (pa_cons pe_int pa_nil))) (pa_cons (pe_tup (pa_cons pe_int (pa_cons (pe_lst (pa_cons pe_int pa_nil)) pa_nil))) pa_nil))))) (pg_tup rfl (pgs_cons (pg_name (i := 3) scPR.nd rfl (Or.inl rfl)) (pgs_cons (pg_name (i := 4) scPR.nd rfl (Or.inl rfl)) pgs_nil)))
(pss_cons (ps_set (i := 5) scPR.nd rfl (Or.inl rfl) (pe_op op_cat (pe_op op_cat (pe_slice sl_list (pv 2) po_none (po_some (pv 3))) (pe_lst (pa_cons (pv 4) pa_nil))) (pe_slice sl_list (pv 2) (po_some (pe_op op_add (pv 3) pe_int)) po_none)))
(pss_one (ps_if (PW.pt (pw_or (pt_cmpR (op_eqO FKe OKe pass0 hr1) (pe_make MKK GIK hr7 (by rfl) AK.g bIK .nil pass0 (pa_cons (pe_ix ix_list (pv 5) pe_int (fun _ _ => rfl)) (pa_cons (pe_ix ix_list (pv 5) pe_int (fun _ _ => rfl)) (pa_cons (pe_ix ix_list (pv 5) pe_int (fun _ _ => rfl)) pa_nil)))) (pe_call GM hr5 (by rfl) gM kM bM .nil pass0 (pa_cons (pv 1) pa_nil)) (nomark _)) (pw_or1 (pt_not (pt_cmpR (op_neO FKe OKe pass0 hr2) (pe_make MKK GIK hr7 (by rfl) AK.g bIK .nil pass0 (pa_cons (pe_ix ix_list (pv 5) pe_int (fun _ _ => rfl)) (pa_cons (pe_ix ix_list (pv 5) pe_int (fun _ _ => rfl)) (pa_cons (pe_ix ix_list (pv 5) pe_int (fun _ _ => rfl)) pa_nil)))) (pe_call GM hr5 (by rfl) gM kM bM .nil pass0 (pa_cons (pv 1) pa_nil)) (nomark _))))))
(pss_one (ps_ret pe_bl))
pss_nil))))
(pss_cons (ps_set (i := 6) scPR.nd rfl (Or.inl rfl) (pe_lst (pa_cons pe_int (pa_cons pe_str (pa_cons pe_int (pa_cons pe_str (pa_cons (pe_tup (pa_cons pe_int (pa_cons pe_int (pa_cons pe_int (pa_cons pe_int (pa_cons (pe_call GM hr5 (by rfl) gM kM bM .nil pass0 (pa_cons (pv 1) pa_nil)) pa_nil)))))) pa_nil)))))))
(pss_cons (ps_set (i := 7) scPR.nd rfl (Or.inl rfl) (pe_make MKL GIL hr7 (by rfl) AL.g bIL .nil pass0 (pa_cons (pe_ix ix_list (pv 6) pe_int (fun _ _ => rfl)) (pa_cons (pe_ix ix_list (pv 6) pe_int (fun _ _ => rfl)) (pa_cons (pe_ix ix_list (pv 6) pe_int (fun _ _ => rfl)) (pa_cons (pe_ix ix_list (pv 6) pe_int (fun _ _ => rfl)) (pa_cons (pe_ix ix_list (pv 6) pe_int (fun _ _ => rfl)) pa_nil)))))))
(pss_cons (ps_set (i := 8) scPR.nd rfl (Or.inl rfl) (pe_lst (pa_cons (pe_fldK K (pv 7) rfl) (pa_cons (pe_fldK K (pv 7) rfl) (pa_cons (pe_fldK K (pv 7) rfl) (pa_cons (pe_fldK K (pv 7) rfl) (pa_cons (pe_fldK K (pv 7) rfl) pa_nil)))))))
(pss_cons (ps_if (PW.pt (pw_or (pt_cmpR (op_neX hu100) (pv 8) (pv 6) (nomark _)) (pw_or (pt_cmpR (op_neO FLe OLe pass0 hr2) (pv 7) (pe_makeK0 MKL GIL hr7 (by rfl) AL.g kbL pass0 (pk_cons (pe_ix ix_list (pv 6) pe_int (fun _ _ => rfl)) (pk_cons pe_str (pk_cons pe_int (pk_cons pe_str (pk_cons pe_int pk_nil)))))) (nomark _)) (pw_or1 (pt_cmpR (op_eqO FLe OLe pass0 hr1) (pv 7) (pv 8) (nomark _))))))
(pss_one (ps_ret pe_bl))
pss_nil)
(pss_cons (ps_for PassesOwn.never rfl (pi_tup (pe_tup (pa_cons (pe_tup (pa_cons pe_int (pa_cons pe_int pa_nil))) (pa_cons (pe_tup (pa_cons pe_int (pa_cons pe_non pa_nil))) (pa_cons (pe_tup (pa_cons pe_int (pa_cons pe_str pa_nil))) (pa_cons (pe_tup (pa_cons pe_int (pa_cons pe_str pa_nil))) (pa_cons (pe_tup (pa_cons pe_int (pa_cons (pe_tup (pa_cons pe_int (pa_cons pe_int (pa_cons pe_int (pa_cons pe_int (pa_cons (pe_call GM hr5 (by rfl) gM kM bM .nil pass0 (pa_cons (pv 1) pa_nil)) pa_nil)))))) pa_nil))) pa_nil))))))) (pg_tup rfl (pgs_cons (pg_name (i := 3) scPR.nd rfl (Or.inl rfl)) (pgs_cons (pg_name (i := 4) scPR.nd rfl (Or.inl rfl)) pgs_nil)))
(pss_cons (ps_set (i := 5) scPR.nd rfl (Or.inl rfl) (pe_op op_cat (pe_op op_cat (pe_slice sl_list (pv 6) po_none (po_some (pv 3))) (pe_lst (pa_cons (pv 4) pa_nil))) (pe_slice sl_list (pv 6) (po_some (pe_op op_add (pv 3) pe_int)) po_none)))
(pss_one (ps_if (pt_cmpR (op_eqO FLe OLe pass0 hr1) (pe_make MKL GIL hr7 (by rfl) AL.g bIL .nil pass0 (pa_cons (pe_ix ix_list (pv 5) pe_int (fun _ _ => rfl)) (pa_cons (pe_ix ix_list (pv 5) pe_int (fun _ _ => rfl)) (pa_cons (pe_ix ix_list (pv 5) pe_int (fun _ _ => rfl)) (pa_cons (pe_ix ix_list (pv 5) pe_int (fun _ _ => rfl)) (pa_cons (pe_ix ix_list (pv 5) pe_int (fun _ _ => rfl)) pa_nil)))))) (pv 7) (nomark _))
(pss_one (ps_ret pe_bl))
pss_nil))))
(pss_cons (ps_set (i := 9) scPR.nd rfl (Or.inl rfl) (pe_lst (pa_cons pe_int (pa_cons (pe_lst (pa_cons pe_int pa_nil)) pa_nil))))
(pss_cons (ps_par (i := 10) (j := 11) (by rfl) scPR.nd rfl rfl (by decide) rfl rfl (pa_cons (pe_make MKK GIK hr7 (by rfl) AK.g bIK .nil pass0 (pa_cons (pv 9) (pa_cons (pe_disp (pps_cons pe_str (pv 9) pps_nil) (by rfl) (by rfl) (fun z => by cases z) (by decide)) (pa_cons pe_int pa_nil)))) (pa_cons (pe_make MKL GIL hr7 (by rfl) AL.g bIL .nil pass0 (pa_cons (pv 9) (pa_cons (pv 9) (pa_cons (pv 9) (pa_cons (pv 9) (pa_cons (pv 9) pa_nil)))))) pa_nil)) (by rfl))
(pss_cons (ps_expr (pe_bm PySem.F.plainAttrs_list PySem.F.slot_list_append PySem.F.type_list_append mt_append (pe_ix ix_list (pv 9) pe_int (fun _ _ => rfl)) (pa_cons pe_int pa_nil)))
(pss_cons (ps_if (pt_cmpR (op_neD hr.units) (pe_lst (pa_cons (pe_fldK K (pv 11) rfl) (pa_cons (pe_fldK K (pv 11) rfl) (pa_cons (pe_fldK K (pv 11) rfl) (pa_cons (pe_fldK K (pv 11) rfl) (pa_cons (pe_fldK K (pv 11) rfl) pa_nil)))))) (pe_op op_rep (pe_lst (pa_cons (pe_lst (pa_cons pe_int (pa_cons (pe_lst (pa_cons pe_int pa_nil)) pa_nil))) pa_nil)) pe_int) (nomark _))
(pss_one (ps_ret pe_bl))
pss_nil)
(pss_one (ps_ret (pe_and (pe_cmpR (op_eqD hr.units) (pe_fldK K (pv 10) rfl) (pe_lst (pa_cons pe_int (pa_cons (pe_lst (pa_cons pe_int pa_nil)) pa_nil))) (nomark _)) (pe_one (pe_cmpR (op_eqDic hr0) (pe_fldK K (pv 10) rfl) (pe_disp (pps_cons pe_str (pe_lst (pa_cons pe_int (pa_cons (pe_lst (pa_cons pe_int pa_nil)) pa_nil))) pps_nil) (by rfl) (by rfl) (fun z => by cases z) (by decide)) (nomark _)))))))))))))))))), ?_⟩
    refine ⟨.ref p, rfl, p, c, cells, n, rfl, pen, by omega, fun t a H1 ok pen1 kp1 tp => ?_⟩
    obtain ⟨s, ha, hs⟩ := tp_parts (K := K) tp
    have qa : Sq K H1 a _ := .inr (SqT.of ha)
    dsimp only [gName]
    refine ⟨.ref a, rfl, qa.ix (at_nat (i := 0) rfl) ⟨.ref a, rfl, qa.ix (at_nat (i := 1) rfl) ⟨.ref a, rfl, qa.ix (at_nat (i := 2) rfl) ⟨by show 3 ≤ sizeLine; decide, fun PP hPP => ?_⟩⟩⟩⟩
    have w1 := same_new (o := .lst [.ref s, t.v2, t.v3]) hPP
    have ePP : (upd H1 PP (.lst [.ref s, t.v2, t.v3])) PP = some (.lst [.ref s, t.v2, t.v3]) := upd_same
    generalize upd H1 PP (.lst [.ref s, t.v2, t.v3]) = H2 at w1 ePP ⊢
    dsimp only [gName]
    refine ⟨by show 2 ≤ sizeLine; decide, fun T9 h9 => ⟨by show 2 ≤ sizeLine; decide, fun t0 ht0 => ⟨by show 2 ≤ sizeLine; decide, fun t1 ht1 => ⟨by show 1 ≤ sizeLine; decide, fun l3 hl3 => ⟨by show 2 ≤ sizeLine; decide, fun t2 ht2 => ⟨by show 3 ≤ sizeLine; decide, fun TT hTT => ?_⟩⟩⟩⟩⟩⟩
    have z1 := same_new (o := .tup [.int 9, .str "ann"]) h9
    have y1 : (upd H2 T9 (.tup [.int 9, .str "ann"])) T9 = some (.tup [.int 9, .str "ann"]) := upd_same
    generalize upd H2 T9 (.tup [.int 9, .str "ann"]) = G1 at z1 y1 ht0 ht1 hl3 ht2 hTT ⊢
    have z2 := same_new (o := .tup [.int 0, .ref T9]) ht0
    have y2 : (upd G1 t0 (.tup [.int 0, .ref T9])) t0 = some (.tup [.int 0, .ref T9]) := upd_same
    generalize upd G1 t0 (.tup [.int 0, .ref T9]) = G2 at z2 y2 ht1 hl3 ht2 hTT ⊢
    have z3 := same_new (o := .tup [.int 1, .int 77]) ht1
    have y3 : (upd G2 t1 (.tup [.int 1, .int 77])) t1 = some (.tup [.int 1, .int 77]) := upd_same
    generalize upd G2 t1 (.tup [.int 1, .int 77]) = G3 at z3 y3 hl3 ht2 hTT ⊢
    have z4 := same_new (o := .lst [.int 3]) hl3
    have y4 : (upd G3 l3 (.lst [.int 3])) l3 = some (.lst [.int 3]) := upd_same
    generalize upd G3 l3 (.lst [.int 3]) = G4 at z4 y4 ht2 hTT ⊢
    have z5 := same_new (o := .tup [.int 2, .ref l3]) ht2
    have y5 : (upd G4 t2 (.tup [.int 2, .ref l3])) t2 = some (.tup [.int 2, .ref l3]) := upd_same
    generalize upd G4 t2 (.tup [.int 2, .ref l3]) = G5 at z5 y5 hTT ⊢
    have z6 := same_new (o := .tup [.ref t0, .ref t1, .ref t2]) hTT
    have y6 : (upd G5 TT (.tup [.ref t0, .ref t1, .ref t2])) TT = some (.tup [.ref t0, .ref t1, .ref t2]) := upd_same
    generalize upd G5 TT (.tup [.ref t0, .ref t1, .ref t2]) = HB at z6 y6 ⊢
    have z56 := z5.trans z6
    have z46 := z4.trans z56
    have z36 := z3.trans z46
    have z26 := z2.trans z36
    have z16 := z1.trans z26
    have b9 := z26 _ _ y1
    have b0 := z36 _ _ y2
    have b1 := z46 _ _ y3
    have b3 := z56 _ _ y4
    have b2 := z6 _ _ y5
    have sB := w1.trans z16
    have ePP := z16 _ _ ePP
    have tpB := tp.mono sB
    have penB := pen1.mono sB (Nat.le_refl _)
    have kpB := kp1.trans (Kept.of sB)
    have hsB : ∀ H', Same HB H' → Dv K (offD H') (.ref s) t.d1 ∧ Dv K (offD H') t.v2 t.d2 ∧ Dv K (offD H') t.v3 t.d3 := fun H' sm => hs H' (sB.trans sm)
    clear z1 z2 z3 z4 z5 z6 z56 z46 z36 z26 z16 y1 y2 y3 y4 y5 ht0 ht1 hl3 ht2 hTT h9 hPP qa w1 sB
    refine ⟨TT, rfl, ⟨_, SqT.of y6⟩, ?_⟩
    refine for_it (walk_tup (K := K) (a := TT) (xs := [.ref t0, .ref t1, .ref t2])) (fun i σ H' => (∃ x3 x4 x5 x6 x7 x8 x9 x10 x11, σ = [some (.ref p), some (.ref a), some (.ref PP), x3, x4, x5, x6, x7, x8, x9, x10, x11]) ∧ Same HB H') ⟨⟨_, _, _, _, _, _, _, _, _, rfl⟩, Same.refl _⟩ (fun i σ H' _ z => SqT.of (z.2 _ _ y6)) ?_ ?_
    · rintro i y _ H3 H4 hi ⟨⟨x3, x4, x5, x6, x7, x8, x9, x10, x11, rfl⟩, s1⟩ ⟨rfl, hy⟩
      obtain ⟨ti, ov, rfl, hti, hov⟩ : ∃ ti ov, y = .ref ti ∧ HB ti = some (.tup [.int (i : Int), ov]) ∧ [V.ref T9, V.int 77, V.ref l3][i]? = some ov := by
        match i, hy with
        | 0, hy => cases hy; exact ⟨_, _, rfl, b0, rfl⟩
        | 1, hy => cases hy; exact ⟨_, _, rfl, b1, rfl⟩
        | 2, hy => cases hy; exact ⟨_, _, rfl, b2, rfl⟩
      have i3 : i < 3 := hi
      refine ⟨ti, _, rfl, SqT.of (s1 _ _ hti), rfl, ?_⟩
      dsimp only [gCons, gNil, gName]
      refine ⟨_, _, rfl, _, _, rfl, rfl, ?_⟩
      dsimp only [tSeq, tAsg]
      refine bent_go (K := K) (j := 2) (i := i) (s1 _ _ ePP) rfl rfl rfl i3 (by show 3 ≤ 100; decide) fun B H5 s5 eB => ?_
      dsimp only [gName]
      obtain ⟨w0, w1, w2, a', b', c', ew, fv, fok, pa, pb, pc, no⟩ := bent_kept ok hsB b9 b3 hov
      rw [ew] at eB
      have s5 := s1.trans s5
      refine ⟨.ref B, rfl, B, _, 0, w0, rfl, rfl, SqL.of eB, at_nat (i := 0) rfl, .ref B, rfl, B, _, 1, w1, rfl, rfl, SqL.of eB, at_nat (i := 1) rfl, .ref B, rfl, B, _, 2, w2, rfl, rfl, SqL.of eB, at_nat (i := 2) rfl, fun x dx hx hdx ne => ?_⟩
      refine ini_ix (ex := fun _ => False) hx hdx ne rfl (fv H5 s5) (fok H5) (fun e z => z.elim) fun H6 s6 ix => ?_
      refine ⟨.ref a, rfl, a, t, rfl, (tpB.mono s5).mono s6, fun kb H7 s7 kt => ?_⟩
      have ix7 := ix.mono s7
      obtain ⟨dxx, _, _, hxx, _⟩ := id ix7
      obtain ⟨dxk, _, _, _, hkk, _⟩ := id kt
      refine ⟨x, dxx, _, .ref CK, rfl, hxx, AK.ty _ _ _ _ hkk, nfK, kx_eq ix7 kt ok pa pb pc ⟨_, rfl, _, rfl, ?_⟩⟩
      rw [no]
      have s57 := s5.trans (s6.trans s7)
      have eB7 := s7 _ _ (s6 _ _ eB)
      refine iteF' ⟨.ref B, rfl, B, _, 0, w0, rfl, rfl, SqL.of eB7, at_nat (i := 0) rfl, .ref B, rfl, B, _, 1, w1, rfl, rfl, SqL.of eB7, at_nat (i := 1) rfl, .ref B, rfl, B, _, 2, w2, rfl, rfl, SqL.of eB7, at_nat (i := 2) rfl, fun x' dx' hx' hdx' ne' => ?_⟩
      refine ini_ix (ex := fun _ => False) hx' hdx' ne' rfl (fv H7 s57) (fok H7) (fun e z => z.elim) fun H8 s8 iy => ?_
      refine ⟨.ref a, rfl, a, t, rfl, (tpB.mono s57).mono s8, fun kb' H9 s9 kt' => ?_⟩
      have iy9 := iy.mono s9
      obtain ⟨dxx', _, _, hxx', _⟩ := id iy9
      obtain ⟨dxk', _, _, _, hkk', _⟩ := id kt'
      refine ⟨x', dxx', _, .ref CK, rfl, hxx', AK.ty _ _ _ _ hkk', nfK, kx_eq iy9 kt' ok pa pb pc ⟨_, rfl, _, rfl, ?_⟩⟩
      rw [no]
      exact iteF ⟨⟨_, _, _, _, _, _, _, _, _, rfl⟩, s57.trans (s8.trans s9)⟩
    rintro _ H3 ⟨⟨x3, x4, x5, x6, x7, x8, x9, x10, x11, rfl⟩, s3⟩
    refine ⟨.ref a, rfl, a, t, rfl, tpB.mono s3, fun kb H4 s4 kt => ⟨by show 5 ≤ sizeLine; decide, fun P5 hP5 => ⟨by show 5 ≤ sizeLine; decide, fun R hR => ?_⟩⟩⟩
    have z1 := same_new (o := .tup (plP kb)) hP5
    have y1 : (upd H4 P5 (.tup (plP kb))) P5 = some (.tup (plP kb)) := upd_same
    have hR : (upd H4 P5 (.tup (plP kb))) R = none := hR
    have z2 := same_new (o := .lst [.int 3, .str "ann", .int 10, .str "keep", .ref P5]) hR
    have y2 : (upd (upd H4 P5 (.tup (plP kb))) R (.lst [.int 3, .str "ann", .int 10, .str "keep", .ref P5])) R = some (.lst [.int 3, .str "ann", .int 10, .str "keep", .ref P5]) := upd_same
    show gName 6 (.ref R) _ (upd (upd H4 P5 (.tup (plP kb))) R (.lst [.int 3, .str "ann", .int 10, .str "keep", .ref P5])) _
    have y1 := z2 _ _ y1
    have sB := s3.trans (s4.trans (z1.trans z2))
    have kt := (kt.mono z1).mono z2
    generalize upd (upd H4 P5 (.tup (plP kb))) R (.lst [.int 3, .str "ann", .int 10, .str "keep", .ref P5]) = H5 at y1 y2 sB kt ⊢
    clear z1 z2 hR hP5
    obtain ⟨q1, q2, _⟩ := pls_s1
    dsimp only [gName]
    refine ⟨.ref R, rfl, R, _, 0, _, rfl, rfl, SqL.of y2, at_nat (i := 0) rfl, .ref R, rfl, R, _, 1, _, rfl, rfl, SqL.of y2, at_nat (i := 1) rfl, .ref R, rfl, R, _, 2, _, rfl, rfl, SqL.of y2, at_nat (i := 2) rfl, .ref R, rfl, R, _, 3, _, rfl, rfl, SqL.of y2, at_nat (i := 3) rfl, .ref R, rfl, R, _, 4, _, rfl, rfl, SqL.of y2, at_nat (i := 4) rfl, fun lt dxl hlt hdxl nel => ?_⟩
    obtain ⟨fv5, fo5⟩ := let_fv AK y1 kt (Same.refl H5)
    refine ini_ix (ex := fun _ => False) hlt hdxl nel rfl fv5 fo5 (fun e z => z.elim) fun H6 s6 ixl => ?_
    obtain ⟨dxl', v1, v2, v3, v4, tl, hl, d1, d2, d3, d4, htl⟩ := ixl.letter
    dsimp only [gName]
    refine ⟨.ref lt, rfl, lt, CL, dxl', _, v1, rfl, hl, AL.cl, AL.no _ (by decide), rfl, .ref lt, rfl, lt, CL, dxl', _, v2, rfl, hl, AL.cl, AL.no _ (by decide), rfl, .ref lt, rfl, lt, CL, dxl', _, v3, rfl, hl, AL.cl, AL.no _ (by decide), rfl, .ref lt, rfl, lt, CL, dxl', _, v4, rfl, hl, AL.cl, AL.no _ (by decide), rfl, .ref lt, rfl, lt, CL, dxl', _, (.ref tl), rfl, hl, AL.cl, AL.no _ (by decide), rfl, by show 5 ≤ sizeLine; decide, fun FL hFL => ?_⟩
    have u1 := same_new (o := .lst [v1, v2, v3, v4, .ref tl]) hFL
    have eFL : (upd H6 FL (.lst [v1, v2, v3, v4, .ref tl])) FL = some (.lst [v1, v2, v3, v4, .ref tl]) := upd_same
    generalize upd H6 FL (.lst [v1, v2, v3, v4, .ref tl]) = H7 at u1 eFL ⊢
    have s57 := s6.trans u1
    dsimp only [gName]
    refine ⟨.ref FL, rfl, .ref R, rfl, FL, R, _, _, rfl, rfl, SqL.of eFL, SqL.of (s57 _ _ y2), rfl, smx_fields (Dv.mono u1 d1) (Dv.mono u1 d2) (Dv.mono u1 d3) (Dv.mono u1 d4) (u1 _ _ htl) (s57 _ _ y1), _, rfl, ?_⟩
    refine iteF' ⟨.ref lt, rfl, .ref R, rfl, R, _, 4, _, rfl, rfl, SqL.of (s57 _ _ y2), at_nat (i := 4) rfl, rfl, rfl, fun l2 dx2 hl2 hdx2 ne2 => ?_⟩
    obtain ⟨fv7, fo7⟩ := let_fv AK y1 kt s57
    refine ini_ix (ex := fun _ => False) hl2 hdx2 ne2 rfl fv7 fo7 (fun e z => z.elim) fun H8 s8 ix2 => ?_
    have s68 := u1.trans s8
    have ixl8 := ixl.mono s68
    obtain ⟨dx2', _, _, _, _, _, hl2', _⟩ := ix2.letter
    have hl8 := s68 _ _ hl
    refine ⟨lt, dxl', _, .ref CL, rfl, hl8, AL.ty _ _ _ _ hl2', nfL, lx_eq (r := true) ixl8 ix2 (pls_int _) q1 (pls_int _) q2 (pls_int _) q1 (pls_int _) q2 (fun t u x y => plP_eq x y) ⟨_, rfl, _, rfl, ?_⟩⟩
    rw [show (PyData.eqv (.int 3) (.int 3) && (PyData.eqv (.str "ann") (.str "ann") && (PyData.eqv (.int 10) (.int 10) && (PyData.eqv (.str "keep") (.str "keep") && true)))) = true by decide +kernel]
    have eFL8 := s8 _ _ eFL
    refine iteF' ⟨.ref lt, rfl, .ref FL, rfl, lt, dxl', _, .type "list", rfl, hl8, .lst eFL8, nfLL, lt, .ref FL, dxl', [v1, v2, v3, v4, .ref tl], rfl, hl8, rfl, .inr ⟨.type "list", .base (.lst eFL8), AL.no7 "list" (by decide), _, rfl, _, rfl, ?_⟩⟩
    refine iteF ?_
    have sC := sB.trans (s57.trans s8)
    have tpC := tpB.mono sC
    have y1 := s8 _ _ (s57 _ _ y1)
    have y2 := s8 _ _ (s57 _ _ y2)
    have kt := (kt.mono s57).mono s8
    clear eFL8 hl8 hl htl d1 d2 d3 d4 eFL u1 hFL s57 s68 fv5 fo5 fv7 fo7 hlt hdxl nel hl2 hdx2 ne2
    refine ⟨by show 2 ≤ sizeLine; decide, fun u0 hu0 => ⟨by show 2 ≤ sizeLine; decide, fun u1 hu1 => ⟨by show 2 ≤ sizeLine; decide, fun u2 hu2 => ⟨by show 2 ≤ sizeLine; decide, fun u3 hu3 => ?_⟩⟩⟩⟩
    have z0 := same_new (o := .tup [.int 0, .int 4]) hu0
    have c0 : (upd H8 u0 (.tup [.int 0, .int 4])) u0 = some (.tup [.int 0, .int 4]) := upd_same
    generalize upd H8 u0 (.tup [.int 0, .int 4]) = G1 at z0 c0 hu1 hu2 hu3 ⊢
    have z1 := same_new (o := .tup [.int 1, .non]) hu1
    have c1 : (upd G1 u1 (.tup [.int 1, .non])) u1 = some (.tup [.int 1, .non]) := upd_same
    generalize upd G1 u1 (.tup [.int 1, .non]) = G2 at z1 c1 hu2 hu3 ⊢
    have z2 := same_new (o := .tup [.int 2, .str "ann"]) hu2
    have c2 : (upd G2 u2 (.tup [.int 2, .str "ann"])) u2 = some (.tup [.int 2, .str "ann"]) := upd_same
    generalize upd G2 u2 (.tup [.int 2, .str "ann"]) = G3 at z2 c2 hu3 ⊢
    have z3 := same_new (o := .tup [.int 3, .str "kept"]) hu3
    have c3 : (upd G3 u3 (.tup [.int 3, .str "kept"])) u3 = some (.tup [.int 3, .str "kept"]) := upd_same
    generalize upd G3 u3 (.tup [.int 3, .str "kept"]) = G4 at z3 c3 ⊢
    refine ⟨.ref a, rfl, a, t, rfl, tpC.mono (z0.trans (z1.trans (z2.trans z3))), fun kc G5 z4 kc5 => ⟨by show 5 ≤ sizeLine; decide, fun P6 hP6 => ⟨by show 2 ≤ sizeLine; decide, fun u4 hu4 => ⟨by show 5 ≤ sizeLine; decide, fun TT2 hTT2 => ?_⟩⟩⟩⟩
    have z5 := same_new (o := .tup (plQ kc)) hP6
    have c6 : (upd G5 P6 (.tup (plQ kc))) P6 = some (.tup (plQ kc)) := upd_same
    have hu4 : (upd G5 P6 (.tup (plQ kc))) u4 = none := hu4
    have hTT2 : (upd (upd G5 P6 (.tup (plQ kc))) u4 (.tup [.int 4, .ref P6])) TT2 = none := hTT2
    refine ⟨TT2, rfl, ⟨_, SqT.of upd_same⟩, ?_⟩
    show ∃ W : Nat → Nat → L2.St → Hp → Prop, (∃ m, W 0 m _ (upd (upd (upd G5 P6 (.tup (plQ kc))) u4 (.tup [.int 4, .ref P6])) TT2 (.tup [.ref u0, .ref u1, .ref u2, .ref u3, .ref u4]))) ∧ _
    generalize upd G5 P6 (.tup (plQ kc)) = G6 at z5 c6 hu4 hTT2 ⊢
    have z6 := same_new (o := .tup [.int 4, .ref P6]) hu4
    have c4 : (upd G6 u4 (.tup [.int 4, .ref P6])) u4 = some (.tup [.int 4, .ref P6]) := upd_same
    generalize upd G6 u4 (.tup [.int 4, .ref P6]) = G7 at z6 c4 hTT2 ⊢
    have z7 := same_new (o := .tup [.ref u0, .ref u1, .ref u2, .ref u3, .ref u4]) hTT2
    have c7 : (upd G7 TT2 (.tup [.ref u0, .ref u1, .ref u2, .ref u3, .ref u4])) TT2 = some (.tup [.ref u0, .ref u1, .ref u2, .ref u3, .ref u4]) := upd_same
    generalize upd G7 TT2 (.tup [.ref u0, .ref u1, .ref u2, .ref u3, .ref u4]) = HC at z7 c7 ⊢
    have w6 := z6.trans z7
    have w5 := z5.trans w6
    have w4 := z4.trans w5
    have w3 := z3.trans w4
    have w2 := z2.trans w3
    have w1 := z1.trans w2
    have w0 := z0.trans w1
    have b0' := w1 _ _ c0
    have b1' := w2 _ _ c1
    have b2' := w3 _ _ c2
    have b3' := w4 _ _ c3
    have b4' := z7 _ _ c4
    have b6' := w6 _ _ c6
    have kcC := kc5.mono w5
    have ktC := kt.mono w0
    have y1 := w0 _ _ y1
    have y2 := w0 _ _ y2
    have ixC := ixl8.mono w0
    have sD := sC.trans w0
    clear z0 z1 z2 z3 z4 z5 z6 z7 w1 w2 w3 w4 w5 w6 c0 c1 c2 c3 c4 c6 kc5 hu0 hu1 hu2 hu3 hu4 hP6 hTT2 kt
    refine for_it (walk_tup (K := K) (a := TT2) (xs := [.ref u0, .ref u1, .ref u2, .ref u3, .ref u4])) (fun i σ H' => (∃ x3 x4 x5 x9 x10 x11, σ = [some (.ref p), some (.ref a), some (.ref PP), x3, x4, x5, some (.ref R), some (.ref lt), some (.ref FL), x9, x10, x11]) ∧ Same HC H') ⟨⟨_, _, _, _, _, _, rfl⟩, Same.refl _⟩ (fun i σ H' _ z => SqT.of (z.2 _ _ c7)) ?_ ?_
    · rintro i y _ H9 H10 hi ⟨⟨x3, x4, x5, x9, x10, x11, rfl⟩, s1⟩ ⟨rfl, hy⟩
      obtain ⟨ti, ov, rfl, hti, hov⟩ : ∃ ti ov, y = .ref ti ∧ HC ti = some (.tup [.int (i : Int), ov]) ∧ [V.int 4, .non, .str "ann", .str "kept", .ref P6][i]? = some ov := by
        match i, hy with
        | 0, hy => cases hy; exact ⟨_, _, rfl, b0', rfl⟩
        | 1, hy => cases hy; exact ⟨_, _, rfl, b1', rfl⟩
        | 2, hy => cases hy; exact ⟨_, _, rfl, b2', rfl⟩
        | 3, hy => cases hy; exact ⟨_, _, rfl, b3', rfl⟩
        | 4, hy => cases hy; exact ⟨_, _, rfl, b4', rfl⟩
      have i5 : i < 5 := hi
      refine ⟨ti, _, rfl, SqT.of (s1 _ _ hti), rfl, ?_⟩
      dsimp only [gCons, gNil, gName]
      refine ⟨_, _, rfl, _, _, rfl, rfl, ?_⟩
      dsimp only [tSeq, tAsg]
      refine bent_go (K := K) (j := 6) (i := i) (s1 _ _ y2) rfl rfl rfl i5 (by show 5 ≤ 100; decide) fun B H11 s5 eB => ?_
      dsimp only [gName]
      obtain ⟨w0', w1', w2', w3', w4', a', b', c', d', xs', r', ew, fv, pa, pb, pc, pd, h5, no⟩ := bent_letter AK y1 b6' ktC kcC hov
      rw [ew] at eB
      have s5 := s1.trans s5
      refine ⟨.ref B, rfl, B, _, 0, _, rfl, rfl, SqL.of eB, at_nat (i := 0) rfl, .ref B, rfl, B, _, 1, _, rfl, rfl, SqL.of eB, at_nat (i := 1) rfl, .ref B, rfl, B, _, 2, _, rfl, rfl, SqL.of eB, at_nat (i := 2) rfl, .ref B, rfl, B, _, 3, _, rfl, rfl, SqL.of eB, at_nat (i := 3) rfl, .ref B, rfl, B, _, 4, _, rfl, rfl, SqL.of eB, at_nat (i := 4) rfl, fun x dx hx hdx ne => ?_⟩
      obtain ⟨fv1, fo1⟩ := fv H11 s5
      refine ini_ix (ex := fun _ => False) hx hdx ne rfl fv1 fo1 (fun e z => z.elim) fun H12 s6 ix => ?_
      have ixl12 := ixC.mono (s5.trans s6)
      obtain ⟨dxx, _, _, _, _, _, hxx, _⟩ := ix.letter
      obtain ⟨dxl9, _, _, _, _, _, hl9, _⟩ := ixl12.letter
      refine ⟨.ref lt, rfl, x, dxx, _, .ref CL, rfl, hxx, AL.ty _ _ _ _ hl9, nfL, lx_eq ix ixl12 pa pb pc pd (pls_int _) q1 (pls_int _) q2 (fun t u x y => h5 _ t u x y) ⟨_, rfl, _, rfl, ?_⟩⟩
      rw [no]
      exact iteF ⟨⟨_, _, _, _, _, _, rfl⟩, s5.trans s6⟩
    rintro _ H9 ⟨⟨x3, x4, x5, x9, x10, x11, rfl⟩, s9⟩
    have penD := (penB.mono sD (Nat.le_refl _)).mono s9 (Nat.le_refl _)
    have kpD := kpB.trans (Kept.of (sD.trans s9))
    refine ⟨by show 1 ≤ sizeLine; decide, fun a2 ha2 => ⟨by show 2 ≤ sizeLine; decide, fun S hS => ?_⟩⟩
    have z1 := same_new (o := .lst [.int 2]) ha2
    have c1 : (upd H9 a2 (.lst [.int 2])) a2 = some (.lst [.int 2]) := upd_same
    have na2 := penD.nn ha2
    have fra : H a2 = none := none_keptP kpD penD ha2
    generalize upd H9 a2 (.lst [.int 2]) = E1 at z1 c1 hS ⊢
    have z2 := same_new (o := .lst [.int 1, .ref a2]) hS
    have c2 : (upd E1 S (.lst [.int 1, .ref a2])) S = some (.lst [.int 1, .ref a2]) := upd_same
    have c1 := z2 _ _ c1
    generalize upd E1 S (.lst [.int 1, .ref a2]) = E2 at z2 c2 c1 ⊢
    have penE := penD.mono (z1.trans z2) (Nat.le_refl _)
    have kpE := kpD.trans (Kept.of (z1.trans z2))
    dsimp only [gName]
    obtain ⟨cp4, cp3⟩ := l12_cp
    refine ⟨.ref S, rfl, fun dd hdd => ⟨.ref S, rfl, upd_same, [(Sum.inr "a", .ref S)], rfl, by show 1 ≤ 15; decide, fun px dx hpx hdx nex => ?_⟩⟩
    have z3 : Same E2 (upd (upd E2 dd (.dK [])) dd (.dK (mergeK [] [(Sum.inr "a", V.ref S)]))) := dic_new hdd
    have c3 : (upd (upd E2 dd (.dK [])) dd (.dK (mergeK [] [(Sum.inr "a", V.ref S)]))) dd = some (.dK [(Sum.inr "a", .ref S)]) := upd_same
    generalize upd (upd E2 dd (.dK [])) dd (.dK (mergeK [] [(Sum.inr "a", V.ref S)])) = E3 at z3 c3 hpx hdx ⊢
    have c1 := z3 _ _ c1
    have c2 := z3 _ _ c2
    have dvS := l12_dv (K := K) c1 c2
    refine ini_ix (ex := fun b => b = a2) (fvs := [.dat L12, .dat (.dict [(.str "a", L12)]), .dat (.int 0)]) hpx hdx nex rfl (.cons dvS (.cons (.dic (.inl (off_at c3 fun _ _ z => nomatch z)) (.cons (k := Sum.inr "a") dvS .nil)) (.cons (.int 0) .nil))) (fun f m => ?_) (fun e z => by rcases (show e = a2 from z) with rfl; exact ⟨_, c1⟩) fun E4 z4 ixp => ?_
    · simp only [List.mem_cons, List.not_mem_nil, or_false] at m
      rcases m with rfl | rfl | rfl
      · exact cp4
      · exact ⟨_, rfl, rfl, cp3⟩
      · exact True.intro
    have c1 := z4 _ _ c1
    have c2 := z4 _ _ c2
    have dvS4 := l12_dv (K := K) c1 c2
    refine ⟨.ref S, rfl, .ref S, rfl, .ref S, rfl, .ref S, rfl, .ref S, rfl, fun hx dx2 hhx hdx2 nex2 => ?_⟩
    refine ini_ix (ex := fun b => b = a2) (fvs := [.dat L12, .dat L12, .dat L12, .dat L12, .dat L12]) hhx hdx2 nex2 rfl (.cons dvS4 (.cons dvS4 (.cons dvS4 (.cons dvS4 (.cons dvS4 .nil))))) (fun f m => ?_) (fun e z => by rcases (show e = a2 from z) with rfl; exact ⟨_, c1⟩) fun E5 z5 ixh => ?_
    · simp only [List.mem_cons, List.not_mem_nil, or_false, or_self] at m
      rw [m]
      exact cp4
    have c1 := z5 _ _ c1
    have c2 := z5 _ _ c2
    refine ⟨_, _, rfl, ?_⟩
    refine ⟨.ref S, rfl, S, _, 1, .ref a2, rfl, rfl, SqL.of c2, at_nat (i := 1) rfl, .inl ⟨rfl, _, SqL.of c1⟩, a2, [.int 2], .int 3, rfl, rfl, c1, by show 1 < sizeLine; decide, ?_⟩
    have z25 := z3.trans (z4.trans z5)
    have ixp6 := (ixp.mono z5).keep (kx_pop (o := .lst ([.int 2] ++ [.int 3])))
    have ixh6 := ixh.keep (kx_pop (o := .lst ([.int 2] ++ [.int 3])))
    have pen6 : PenAt (upd E5 a2 (.lst ([.int 2] ++ [.int 3]))) p c cells _ := pen_popA (penE.mono z25 (Nat.le_refl _)) na2.1 na2.2
    have kp6 : Kept p H (upd E5 a2 (.lst ([.int 2] ++ [.int 3]))) := fun b o nb e => by
      rw [upd_ne (fun z => by rw [z, fra] at e; cases e)]
      exact z25 _ _ (kpE b o nb e)
    generalize upd E5 a2 (.lst ([.int 2] ++ [.int 3])) = E6 at ixp6 ixh6 pen6 kp6 ⊢
    obtain ⟨dxh, v1', v2', v3', v4', v5', hhd, e1, e2, e3, e4, e5⟩ := ixh6.five
    obtain ⟨dxp, vs1, pa', lp, vs3, hpd, es1, hpa, elp⟩ := ixp6.kept
    refine ⟨.ref hx, rfl, hx, CL, dxh, _, v1', rfl, hhd, AL.cl, AL.no _ (by decide), rfl, .ref hx, rfl, hx, CL, dxh, _, v2', rfl, hhd, AL.cl, AL.no _ (by decide), rfl, .ref hx, rfl, hx, CL, dxh, _, v3', rfl, hhd, AL.cl, AL.no _ (by decide), rfl, .ref hx, rfl, hx, CL, dxh, _, v4', rfl, hhd, AL.cl, AL.no _ (by decide), rfl, .ref hx, rfl, hx, CL, dxh, _, v5', rfl, hhd, AL.cl, AL.no _ (by decide), rfl, by show 5 ≤ sizeLine; decide, fun HL hHL => ?_⟩
    have m1 := same_new (o := .lst [v1', v2', v3', v4', v5']) hHL
    have g1 : (upd E6 HL (.lst [v1', v2', v3', v4', v5'])) HL = some (.lst [v1', v2', v3', v4', v5']) := upd_same
    generalize upd E6 HL (.lst [v1', v2', v3', v4', v5']) = E7 at m1 g1 ⊢
    refine ⟨by show 1 ≤ sizeLine; decide, fun i2 hi2 => ⟨by show 2 ≤ sizeLine; decide, fun o2 ho2 => ⟨by show 1 ≤ sizeLine; decide, fun R1 hR1 => ⟨R1, 5, [.ref o2], rfl, rfl, upd_same, by decide, by decide, by show 1 * 5 ≤ sizeLine; decide, fun R2 hR2 => ?_⟩⟩⟩⟩
    have m2 := same_new (o := .lst [.int 2]) hi2
    have g2 : (upd E7 i2 (.lst [.int 2])) i2 = some (.lst [.int 2]) := upd_same
    generalize upd E7 i2 (.lst [.int 2]) = E8 at m2 g2 ho2 hR1 hR2 ⊢
    have m3 := same_new (o := .lst [.int 1, .ref i2]) ho2
    have g3 : (upd E8 o2 (.lst [.int 1, .ref i2])) o2 = some (.lst [.int 1, .ref i2]) := upd_same
    generalize upd E8 o2 (.lst [.int 1, .ref i2]) = E9 at m3 g3 hR1 hR2 ⊢
    have m4 := (same_new (o := .lst [.ref o2]) hR1).trans (same_new (o := .lst (List.replicate (5 : Int).toNat [V.ref o2]).flatten) hR2)
    have g4 : (upd (upd E9 R1 (.lst [.ref o2])) R2 (.lst (List.replicate (5 : Int).toNat [V.ref o2]).flatten)) R2 = some (.lst [.ref o2, .ref o2, .ref o2, .ref o2, .ref o2]) := upd_same
    generalize upd (upd E9 R1 (.lst [.ref o2])) R2 (.lst (List.replicate (5 : Int).toNat [V.ref o2]).flatten) = E10 at m4 g4 ⊢
    have m34 := m3.trans m4
    have m14 := m1.trans (m2.trans m34)
    have dq := l12_dp (K := K) (m34 _ _ g2) (m4 _ _ g3)
    have dh : ∀ {v : V}, Dv K E6 v L12 → Dp K E10 v L12 := fun z => l12_dd (Dv.mono m14 z)
    refine ⟨.list [L12, L12, L12, L12, L12], .list [L12, L12, L12, L12, L12], .lst (SqL.of (m2.trans m34 _ _ g1)) (.cons (dh e1) (.cons (dh e2) (.cons (dh e3) (.cons (dh e4) (.cons (dh e5) .nil))))), .lst (SqL.of g4) (.cons dq (.cons dq (.cons dq (.cons dq (.cons dq .nil))))), by decide +kernel, by decide +kernel, _, rfl, ?_⟩
    rw [show PyData.eqv (.list [L12, L12, L12, L12, L12]) (.list [L12, L12, L12, L12, L12]) = true by decide +kernel]
    refine iteF ?_
    have hp10 := m14 _ _ hpd
    refine ⟨.ref px, rfl, px, CK, dxp, _, vs1, rfl, hp10, AK.cl, AK.no _ (by decide), rfl, by show 1 ≤ sizeLine; decide, fun i3 hi3 => ⟨by show 2 ≤ sizeLine; decide, fun o3 ho3 => ?_⟩⟩
    have m5 := same_new (o := .lst [.int 2]) hi3
    have g5 : (upd E10 i3 (.lst [.int 2])) i3 = some (.lst [.int 2]) := upd_same
    generalize upd E10 i3 (.lst [.int 2]) = E11 at m5 g5 ho3 ⊢
    have m6 := same_new (o := .lst [.int 1, .ref i3]) ho3
    have g6 : (upd E11 o3 (.lst [.int 1, .ref i3])) o3 = some (.lst [.int 1, .ref i3]) := upd_same
    generalize upd E11 o3 (.lst [.int 1, .ref i3]) = E12 at m6 g6 ⊢
    have m16 := m14.trans (m5.trans m6)
    refine ⟨L12, L12, l12_dd (Dv.mono m16 es1), l12_dp (m6 _ _ g5) g6, by decide +kernel, by decide +kernel, _, rfl, ?_⟩
    rw [show PyData.eqv L12 L12 = true by decide +kernel]
    refine iteT' ⟨.ref px, rfl, px, CK, dxp, _, .ref pa', rfl, m16 _ _ hpd, AK.cl, AK.no _ (by decide), rfl, fun dq2 hdq2 => ?_⟩
    have m7 := same_new (o := .dK []) hdq2
    have g7 : (upd E12 dq2 (.dK [])) dq2 = some (.dK []) := upd_same
    generalize upd E12 dq2 (.dK []) = E13 at m7 g7 ⊢
    refine ⟨by show 1 ≤ sizeLine; decide, fun i4 hi4 => ⟨by show 2 ≤ sizeLine; decide, fun o4 ho4 => ?_⟩⟩
    have m8 := same_new (o := .lst [.int 2]) hi4
    have g8 : (upd E13 i4 (.lst [.int 2])) i4 = some (.lst [.int 2]) := upd_same
    generalize upd E13 i4 (.lst [.int 2]) = E14 at m8 g8 ho4 ⊢
    have m9 := same_new (o := .lst [.int 1, .ref i4]) ho4
    have g9 : (upd E14 o4 (.lst [.int 1, .ref i4])) o4 = some (.lst [.int 1, .ref i4]) := upd_same
    generalize upd E14 o4 (.lst [.int 1, .ref i4]) = E15 at m9 g9 ⊢
    have g7 := m9 _ _ (m8 _ _ g7)
    have g8 := m9 _ _ g8
    refine ⟨g7, [(Sum.inr "a", .ref o4)], rfl, by show 1 ≤ 15; decide, ?_⟩
    have mF : Same E12 (upd E15 dq2 (.dK (mergeK [] [(Sum.inr "a", V.ref o4)]))) := fun b o e => by
      rw [upd_ne (ne_of_none e hdq2)]
      exact m9 _ _ (m8 _ _ (m7 _ _ e))
    have g8 : (upd E15 dq2 (.dK (mergeK [] [(Sum.inr "a", V.ref o4)]))) i4 = some (.lst [.int 2]) := by
      rw [upd_ne (fun z => by rw [z, g7] at g8; cases g8)]
      exact g8
    have g9 : (upd E15 dq2 (.dK (mergeK [] [(Sum.inr "a", V.ref o4)]))) o4 = some (.lst [.int 1, .ref i4]) := by
      rw [upd_ne (fun z => by rw [z, g7] at g9; cases g9)]
      exact g9
    have gq : (upd E15 dq2 (.dK (mergeK [] [(Sum.inr "a", V.ref o4)]))) dq2 = some (.dK [(Sum.inr "a", .ref o4)]) := upd_same
    generalize upd E15 dq2 (.dK (mergeK [] [(Sum.inr "a", V.ref o4)])) = EF at mF g8 g9 gq ⊢
    have mA := m16.trans mF
    have eb : (([(Sum.inr "a", lp)] : List (Key × V)).length == ([(Sum.inr "a", V.ref o4)] : List (Key × V)).length && allIn [(Sum.inr "a", V.ref o4)] (fun _ => PyData.eqv L12 L12) [(Sum.inr "a", lp)]) = true := by
      rw [show PyData.eqv L12 L12 = true by decide +kernel]
      rfl
    refine ⟨pa', dq2, [(Sum.inr "a", lp)], [(Sum.inr "a", .ref o4)], fun _ => PyData.eqv L12 L12, 64, rfl, rfl, mA _ _ hpa, gq, by omega, fun pp hp u hu => ?_, ?_⟩
    · cases List.mem_singleton.mp hp
      cases (show some (V.ref o4) = some u from hu)
      exact .dat (Nat.le_refl _) (l12_dd (Dv.mono mA elp)) (l12_dp g8 g9) (by decide +kernel) (by decide +kernel)
    · rw [eb]
      exact q _ (pen6.mono mA (by omega)) (kp6.trans (Kept.of mA))
end
end K27
end

section
set_option Elab.async false
set_option linter.all false
set_option maxRecDepth 100000
set_option maxHeartbeats 4000000
/-! keywords to parameters -/
namespace K27
open PySem PySem.Spec PyProof.Rows L2 KZ
theorem vals_take1 {vs : List V} {us : List Value} (h : Vals vs us) : Vals (vs.take 1) (us.take 1) := by
  cases h with
  | nil => exact .nil
  | cons a b => exact .cons a .nil
theorem vals_rev2 {vs : List V} {us : List Value} (h : Vals vs us) : Vals (vs.take 2).reverse (us.take 2).reverse := by
  cases h with
  | nil => exact .nil
  | cons a h =>
    cases h with
    | nil => exact .cons a .nil
    | cons b h => exact .cons b (.cons a .nil)
theorem vals_rev3 {vs : List V} {us : List Value} (h : Vals vs us) : Vals (vs.take 3).reverse (us.take 3).reverse := by
  cases h with
  | nil => exact .nil
  | cons a h =>
    cases h with
    | nil => exact .cons a .nil
    | cons b h =>
      cases h with
      | nil => exact .cons b (.cons a .nil)
      | cons c h => exact .cons c (.cons b (.cons a .nil))
section
variable {K : PySem.W.Frag} {x qual p q r : Str} {st : Stmt} {f : Addr} {fd : FuncData}
abbrev FN (x qual : Str) (st : Stmt) (kV doc pm : Value) (an : Option Addr) (cdv ct : Value) : FuncData := PySem.W.fnOf x qual (defArgs st) (defBody st) (defScope st) .none kV doc pm an cdv ct
theorem kb_one (F : Fun K x qual st f fd) (h0 : ∀ (kV doc pm : Value) (an : Option Addr) (cdv ct v : Value), bindArgs (FN x qual st kV doc pm an cdv ct) ⟨[], [(p, v)]⟩ = pure [(p, v)])
    (h1 : ∀ (kV doc pm : Value) (an : Option Addr) (cdv ct v : Value), bindArgs (FN x qual st kV doc pm an cdv ct) ⟨[v], []⟩ = pure [(p, v)]) : KBinds K fd [p] [p] (fun us ws => us ++ ws.take 1) fun vs zs => vs ++ zs.take 1 := by
  obtain ⟨oc, od, kV, doc, pm, an, cdv, ct, osl, rfl, _⟩ := F.ex
  refine ⟨fun s us ws _ hl => ?_, fun a b => a.append (vals_take1 b)⟩
  match us, ws, hl with
  | [], v :: _, _ => exact .of_eq (h0 kV doc pm an cdv ct v)
  | [v], [], _ => exact .of_eq (h1 kV doc pm an cdv ct v)
theorem kb_self (F : Fun K x qual st f fd) (h0 : ∀ (kV doc pm : Value) (an : Option Addr) (cdv ct s v : Value), bindArgs (FN x qual st kV doc pm an cdv ct) ⟨[s], [(q, v)]⟩ = pure [(p, s), (q, v)])
    (h1 : ∀ (kV doc pm : Value) (an : Option Addr) (cdv ct s v : Value), bindArgs (FN x qual st kV doc pm an cdv ct) ⟨[s, v], []⟩ = pure [(p, s), (q, v)]) : KBinds K fd [p, q] [q] (fun us ws => us ++ ws.take 1) fun vs zs => vs ++ zs.take 1 := by
  obtain ⟨oc, od, kV, doc, pm, an, cdv, ct, osl, rfl, _⟩ := F.ex
  refine ⟨fun s us ws _ hl => ?_, fun a b => a.append (vals_take1 b)⟩
  match us, ws, hl with
  | [a], v :: _, _ => exact .of_eq (h0 kV doc pm an cdv ct a v)
  | [a, v], [], _ => exact .of_eq (h1 kV doc pm an cdv ct a v)
  | [], ws, hl => exact absurd hl (by simp only [List.length_append, List.length_take, List.length_reverse, List.length_cons, List.length_nil]; omega)
  | [a], [], hl => exact absurd hl (by simp only [List.length_append, List.length_take, List.length_reverse, List.length_cons, List.length_nil]; omega)
  | [a, v], _ :: _, hl => exact absurd hl (by simp only [List.length_append, List.length_take, List.length_reverse, List.length_cons, List.length_nil]; omega)
  | _ :: _ :: _ :: _, ws, hl => exact absurd hl (by simp only [List.length_append, List.length_take, List.length_reverse, List.length_cons, List.length_nil]; omega)
theorem kb_self2 (F : Fun K x qual st f fd) (h0 : ∀ (kV doc pm : Value) (an : Option Addr) (cdv ct s v u : Value), bindArgs (FN x qual st kV doc pm an cdv ct) ⟨[s], [(r, u), (q, v)]⟩ = pure [(p, s), (q, v), (r, u)])
    (h1 : ∀ (kV doc pm : Value) (an : Option Addr) (cdv ct s v u : Value), bindArgs (FN x qual st kV doc pm an cdv ct) ⟨[s, v], [(r, u)]⟩ = pure [(p, s), (q, v), (r, u)])
    (h2 : ∀ (kV doc pm : Value) (an : Option Addr) (cdv ct s v u : Value), bindArgs (FN x qual st kV doc pm an cdv ct) ⟨[s, v, u], []⟩ = pure [(p, s), (q, v), (r, u)]) : KBinds K fd [p, q, r] [r, q] (fun us ws => us ++ (ws.take 2).reverse) fun vs zs => vs ++ (zs.take 2).reverse := by
  obtain ⟨oc, od, kV, doc, pm, an, cdv, ct, osl, rfl, _⟩ := F.ex
  refine ⟨fun s us ws _ hl => ?_, fun a b => a.append (vals_rev2 b)⟩
  match us, ws, hl with
  | [a], u :: v :: _, _ => exact .of_eq (h0 kV doc pm an cdv ct a v u)
  | [a, v], [u], _ => exact .of_eq (h1 kV doc pm an cdv ct a v u)
  | [a, v, u], [], _ => exact .of_eq (h2 kV doc pm an cdv ct a v u)
  | [], ws, hl => exact absurd hl (by simp only [List.length_append, List.length_take, List.length_reverse, List.length_cons, List.length_nil]; omega)
  | [a], [], hl => exact absurd hl (by simp only [List.length_append, List.length_take, List.length_reverse, List.length_cons, List.length_nil]; omega)
  | [a], [_], hl => exact absurd hl (by simp only [List.length_append, List.length_take, List.length_reverse, List.length_cons, List.length_nil]; omega)
  | [a, v], [], hl => exact absurd hl (by simp only [List.length_append, List.length_take, List.length_reverse, List.length_cons, List.length_nil]; omega)
  | [a, v], _ :: _ :: _, hl => exact absurd hl (by simp only [List.length_append, List.length_take, List.length_reverse, List.length_cons, List.length_nil]; omega)
  | [a, v, u], _ :: _, hl => exact absurd hl (by simp only [List.length_append, List.length_take, List.length_reverse, List.length_cons, List.length_nil]; omega)
  | _ :: _ :: _ :: _ :: _, ws, hl => exact absurd hl (by simp only [List.length_append, List.length_take, List.length_reverse, List.length_cons, List.length_nil]; omega)
theorem kb_three (F : Fun K x qual st f fd) (h0 : ∀ (kV doc pm : Value) (an : Option Addr) (cdv ct s v u : Value), bindArgs (FN x qual st kV doc pm an cdv ct) ⟨[], [(r, u), (q, v), (p, s)]⟩ = pure [(p, s), (q, v), (r, u)])
    (h1 : ∀ (kV doc pm : Value) (an : Option Addr) (cdv ct s v u : Value), bindArgs (FN x qual st kV doc pm an cdv ct) ⟨[s], [(r, u), (q, v)]⟩ = pure [(p, s), (q, v), (r, u)])
    (h2 : ∀ (kV doc pm : Value) (an : Option Addr) (cdv ct s v u : Value), bindArgs (FN x qual st kV doc pm an cdv ct) ⟨[s, v], [(r, u)]⟩ = pure [(p, s), (q, v), (r, u)])
    (h3 : ∀ (kV doc pm : Value) (an : Option Addr) (cdv ct s v u : Value), bindArgs (FN x qual st kV doc pm an cdv ct) ⟨[s, v, u], []⟩ = pure [(p, s), (q, v), (r, u)]) : KBinds K fd [p, q, r] [r, q, p] (fun us ws => us ++ (ws.take 3).reverse) fun vs zs => vs ++ (zs.take 3).reverse := by
  obtain ⟨oc, od, kV, doc, pm, an, cdv, ct, osl, rfl, _⟩ := F.ex
  refine ⟨fun s us ws _ hl => ?_, fun a b => a.append (vals_rev3 b)⟩
  match us, ws, hl with
  | [], u :: v :: a :: _, _ => exact .of_eq (h0 kV doc pm an cdv ct a v u)
  | [a], [u, v], _ => exact .of_eq (h1 kV doc pm an cdv ct a v u)
  | [a, v], [u], _ => exact .of_eq (h2 kV doc pm an cdv ct a v u)
  | [a, v, u], [], _ => exact .of_eq (h3 kV doc pm an cdv ct a v u)
  | [], [], hl => exact absurd hl (by simp only [List.length_append, List.length_take, List.length_reverse, List.length_cons, List.length_nil]; omega)
  | [], [_], hl => exact absurd hl (by simp only [List.length_append, List.length_take, List.length_reverse, List.length_cons, List.length_nil]; omega)
  | [], [_, _], hl => exact absurd hl (by simp only [List.length_append, List.length_take, List.length_reverse, List.length_cons, List.length_nil]; omega)
  | [a], [], hl => exact absurd hl (by simp only [List.length_append, List.length_take, List.length_reverse, List.length_cons, List.length_nil]; omega)
  | [a], [_], hl => exact absurd hl (by simp only [List.length_append, List.length_take, List.length_reverse, List.length_cons, List.length_nil]; omega)
  | [a], _ :: _ :: _ :: _, hl => exact absurd hl (by simp only [List.length_append, List.length_take, List.length_reverse, List.length_cons, List.length_nil]; omega)
  | [a, v], [], hl => exact absurd hl (by simp only [List.length_append, List.length_take, List.length_reverse, List.length_cons, List.length_nil]; omega)
  | [a, v], _ :: _ :: _, hl => exact absurd hl (by simp only [List.length_append, List.length_take, List.length_reverse, List.length_cons, List.length_nil]; omega)
  | [a, v, u], _ :: _, hl => exact absurd hl (by simp only [List.length_append, List.length_take, List.length_reverse, List.length_cons, List.length_nil]; omega)
  | _ :: _ :: _ :: _ :: _, ws, hl => exact absurd hl (by simp only [List.length_append, List.length_take, List.length_reverse, List.length_cons, List.length_nil]; omega)
end
end K27
end

section
set_option Elab.async false
set_option linter.all false
set_option maxRecDepth 100000
set_option maxHeartbeats 4000000
/-! joined -/
namespace K27
open PySem PySem.Spec PyProof.Rows L2 KZ
abbrev args1 (x : Str) (p0 p1 : Pos) : Arguments := ⟨[], [⟨"self", none, p0⟩, ⟨x, none, p1⟩], none, [], [], none, []⟩
section
variable {nm q : Str} {p0 p1 p2 : Pos} {body : List Stmt} {scope : Scope} {kV doc pm cdv ct s v u : Value} {an : Option Addr}
theorem b1k_value : bindArgs (PySem.W.fnOf nm q (args1 "value" p0 p1) body scope .none kV doc pm an cdv ct) ⟨[s], [("value", v)]⟩ = (pure [(("self" : Str), s), (("value" : Str), v)] : Sem (List (Str × Value))) := rfl
theorem b1p_value : bindArgs (PySem.W.fnOf nm q (args1 "value" p0 p1) body scope .none kV doc pm an cdv ct) ⟨[s, v], []⟩ = (pure [(("self" : Str), s), (("value" : Str), v)] : Sem (List (Str × Value))) := rfl
end
theorem errI_ok {K : PySem.W.Frag} {mg : Str → Option Value} {nm : Str} {C : Addr} {fs : List Str} (h : errI K C fs = true) (g : mg nm = some (.ref C)) : ErrC K mg nm C (He.ma K C "__init__") fs := by
  obtain ⟨h0, h⟩ := He.ba h
  obtain ⟨h1, h⟩ := He.ba h
  obtain ⟨h2, h⟩ := He.ba h
  obtain ⟨h3, h⟩ := He.ba h
  obtain ⟨h4, h⟩ := He.ba h
  obtain ⟨h5, h⟩ := He.ba h
  obtain ⟨h6, h7⟩ := He.ba h
  have T := errB_ok h0
  exact ⟨⟨oexB_ok h1, He.eqO_ok h2, T.be, of_decide_eq_true h3, h4⟩, T, He.eqO_ok h5, of_decide_eq_true h6, fun f hf => He.eqO_ok (List.all_eq_true.mp h7 f hf), g⟩
section
variable {P : Program} {w : World} {K : PySem.W.Frag} {mg : Str → Option Value} {base : Heap} {fC : Addr} {dC fd : FuncData}
theorem mk_BadNumber (h : errI K (He.ga K "BadNumber") ["value"] = true) (g : mg "BadNumber" = some (.ref (He.ga K "BadNumber"))) (F : Fun K "__init__" "BadNumber.__init__" (mem 9 0) (He.ma K (He.ga K "BadNumber") "__init__") fd) (T : B0 mg) (gC : mg "copied" = some (.ref fC)) (FC : Fun K "copied" "copied" sCopied fC dC) (bC : Binds K dC ["value"] []) :
    Mk1 P w K mg base "BadNumber" (He.ga K "BadNumber") "value" "value" := by
  have E := errI_ok h g
  refine ⟨_, fd, E, ok_init1 (st := mem 9 0) rfl ⟨rfl, rfl, rfl, by decide +kernel, rfl, by decide +kernel, by decide +kernel⟩ rfl rfl rfl (by decide) (by decide) F E.ox (E.no _ List.mem_cons_self) T gC FC bC, ?_, ?_⟩
  · exact F.binds (ps := ["self", "value"]) fun _ _ _ _ _ _ us hl => match us, hl with | [_, _], _ => b1p_value
  · exact kb_self F (fun _ _ _ _ _ _ _ _ => b1k_value) (fun _ _ _ _ _ _ _ _ => b1p_value)
theorem vals_reverse {vs : List V} {us : List Value} (h : Vals vs us) : Vals vs.reverse us.reverse := by
  induction h with
  | nil => exact .nil
  | cons a _ ih =>
    rw [List.reverse_cons, List.reverse_cons]
    exact ih.append (.cons a .nil)
/-- C(k=v, ..), the keywords in the other order -/
theorem kbnL {x qual : Str} {st : Stmt} {f : Addr} {fd : FuncData} (F : Fun K x qual st f fd) (h : ∀ (kV doc pm : Value) (an : Option Addr) (cdv ct s v0 v1 v2 v3 v4 : Value), bindArgs (FN x qual st kV doc pm an cdv ct) ⟨[s], [(("parts" : Str), v4), (("word" : Str), v3), (("receiver" : Str), v2), (("sender" : Str), v1), (("number" : Str), v0)]⟩ = pure [(("self" : Str), s), (("number" : Str), v0), (("sender" : Str), v1), (("receiver" : Str), v2), (("word" : Str), v3), (("parts" : Str), v4)]) : ∃ g, KBn K fd (("self" : Str) :: lF) 1 lF.reverse g fun vs zs => vs ++ zs.reverse := by
  obtain ⟨oc, od, kV, doc, pm, an, cdv, ct, osl, rfl, _⟩ := F.ex
  refine ⟨fun us ws => us ++ ws.reverse, fun s us ws _ h1 h2 => ?_, fun a b => a.append (vals_reverse b)⟩
  match us, ws, h1, h2 with
  | [a], [b0, b1, b2, b3, b4], _, _ => exact .of_eq (h kV doc pm an cdv ct a b4 b3 b2 b1 b0)
theorem kbnA {x qual : Str} {st : Stmt} {f : Addr} {fd : FuncData} (F : Fun K x qual st f fd) (h : ∀ (kV doc pm : Value) (an : Option Addr) (cdv ct s v0 v1 v2 v3 v4 v5 v6 v7 : Value), bindArgs (FN x qual st kV doc pm an cdv ct) ⟨[s], [(("noted" : Str), v7), (("kept" : Str), v6), (("attempt" : Str), v5), (("stage" : Str), v4), (("epoch" : Str), v3), (("key" : Str), v2), (("word" : Str), v1), (("ask" : Str), v0)]⟩ = pure [(("self" : Str), s), (("ask" : Str), v0), (("word" : Str), v1), (("key" : Str), v2), (("epoch" : Str), v3), (("stage" : Str), v4), (("attempt" : Str), v5), (("kept" : Str), v6), (("noted" : Str), v7)]) : ∃ g, KBn K fd (("self" : Str) :: aF) 1 aF.reverse g fun vs zs => vs ++ zs.reverse := by
  obtain ⟨oc, od, kV, doc, pm, an, cdv, ct, osl, rfl, _⟩ := F.ex
  refine ⟨fun us ws => us ++ ws.reverse, fun s us ws _ h1 h2 => ?_, fun a b => a.append (vals_reverse b)⟩
  match us, ws, h1, h2 with
  | [a], [b0, b1, b2, b3, b4, b5, b6, b7], _, _ => exact .of_eq (h kV doc pm an cdv ct a b7 b6 b5 b4 b3 b2 b1 b0)
theorem em_ok (h : emB K = true) (H : Hp) : SqT K H (tE K) [] := by
  unfold emB at h
  cases q : K.lookup (tE K) with
  | none =>
    rw [q] at h
    cases h
  | some o =>
    obtain ⟨oc, od, dt, osl⟩ := o
    rw [q] at h
    cases oc with
    | type c =>
      cases dt with
      | seq its n =>
        obtain ⟨h1, h2⟩ := He.ba (show (decide (c = "tuple") && decide (its = #[])) = true from h)
        have e := of_decide_eq_true h2
        subst e
        exact .inr ⟨_, #[], n, q, congrArg Value.type (of_decide_eq_true h1), rfl, Nat.zero_le _, .nil⟩
      | _ => cases h
    | _ => cases dt <;> cases h
end
theorem joined {w : World} {mg : Str → Option Value} {fa : Addr} {h : Heap} {K : PySem.W.Frag} (X : K.In h) (G : h.Ns mainGlobals mg) (hfa : mg "law" = some (.ref fa)) (c : He.SaysX fas fns [] tfs exC w h K) :
    LawG PySem.Challenge.rw_stayopen_k27_stamps_letters_and_hosts w K 14 63 "script" mg fa h := by
  have cD : He.SaysD fas fns K := congrArg Prod.fst c.t
  obtain ⟨eB, hx⟩ := He.ba c.more
  obtain ⟨hk_, hx⟩ := He.ba hx
  obtain ⟨hn_, hx⟩ := He.ba hx
  obtain ⟨hKept, hx⟩ := He.ba hx
  obtain ⟨hHost, hx⟩ := He.ba hx
  obtain ⟨hLetter, hx⟩ := He.ba hx
  obtain ⟨hAsking, hem⟩ := He.ba hx
  have kit : ∀ (i : Nat) x, (kits K)[i]? = some x → PySem.W.kitOne K x.1 x.2.1 = some x.2.2 := fun i x e => of_decide_eq_true (List.all_eq_true.mp hk_ x (List.mem_of_getElem? e))
  have nof : ∀ (i : Nat) x, (nfs K)[i]? = some x → PySem.W.notFirst K (He.ga K x.1) x.2 = true := fun i x e => List.all_eq_true.mp hn_ x (List.mem_of_getElem? e)
  obtain ⟨hKept1, hKept⟩ := He.ba hKept
  obtain ⟨hKept2, hKept⟩ := He.ba hKept
  obtain ⟨hKept3, hKept⟩ := He.ba hKept
  obtain ⟨hKept4, hKept5⟩ := He.ba hKept
  obtain ⟨hHost1, hHost⟩ := He.ba hHost
  obtain ⟨hHost2, hHost⟩ := He.ba hHost
  obtain ⟨hHost3, hHost⟩ := He.ba hHost
  obtain ⟨hHost4, hHost5⟩ := He.ba hHost
  obtain ⟨hLetter1, hLetter⟩ := He.ba hLetter
  obtain ⟨hLetter2, hLetter⟩ := He.ba hLetter
  obtain ⟨hLetter3, hLetter⟩ := He.ba hLetter
  obtain ⟨hLetter4, hLetter5⟩ := He.ba hLetter
  obtain ⟨hAsking1, hAsking⟩ := He.ba hAsking
  obtain ⟨hAsking2, hAsking⟩ := He.ba hAsking
  obtain ⟨hAsking3, hAsking⟩ := He.ba hAsking
  obtain ⟨hAsking4, hAsking5⟩ := He.ba hAsking
  have g_is_integer := He.glo_ok X G (cD.fact 0 (f := .glo "is_integer") rfl)
  have g_is_within := He.glo_ok X G (cD.fact 1 (f := .glo "is_within") rfl)
  have g_is_place := He.glo_ok X G (cD.fact 2 (f := .glo "is_place") rfl)
  have g_copied := He.glo_ok X G (cD.fact 3 (f := .glo "copied") rfl)
  have g_nothing := He.glo_ok X G (cD.fact 4 (f := .glo "nothing") rfl)
  have g_is_greater := He.glo_ok X G (cD.fact 5 (f := .glo "is_greater") rfl)
  have g_greatest := He.glo_ok X G (cD.fact 6 (f := .glo "greatest") rfl)
  have g_host_with := He.glo_ok X G (cD.fact 7 (f := .glo "host_with") rfl)
  have g_keeping := He.glo_ok X G (cD.fact 8 (f := .glo "keeping") rfl)
  have g__law_well := He.glo_ok X G (cD.fact 9 (f := .glo "_law_well") rfl)
  have g__law_draw := He.glo_ok X G (cD.fact 10 (f := .glo "_law_draw") rfl)
  have g__law_one := He.glo_ok X G (cD.fact 11 (f := .glo "_law_one") rfl)
  have g__law_kept := He.glo_ok X G (cD.fact 12 (f := .glo "_law_kept") rfl)
  have g__law_made := He.glo_ok X G (cD.fact 13 (f := .glo "_law_made") rfl)
  have g__law_stamps_right := He.glo_ok X G (cD.fact 14 (f := .glo "_law_stamps_right") rfl)
  have g__law_papers_right := He.glo_ok X G (cD.fact 15 (f := .glo "_law_papers_right") rfl)
  have g__law_stored := He.glo_ok X G (cD.fact 16 (f := .glo "_law_stored") rfl)
  have g__law_answer := He.glo_ok X G (cD.fact 17 (f := .glo "_law_answer") rfl)
  have g__law_letter := He.glo_ok X G (cD.fact 18 (f := .glo "_law_letter") rfl)
  have g__law_stands := He.glo_ok X G (cD.fact 19 (f := .glo "_law_stands") rfl)
  have g__law_host_right := He.glo_ok X G (cD.fact 20 (f := .glo "_law_host_right") rfl)
  have g__law_made_asking := He.glo_ok X G (cD.fact 21 (f := .glo "_law_made_asking") rfl)
  have g__law_askings_right := He.glo_ok X G (cD.fact 22 (f := .glo "_law_askings_right") rfl)
  have g__law_refused_right := He.glo_ok X G (cD.fact 23 (f := .glo "_law_refused_right") rfl)
  have g_law := He.glo_ok X G (cD.fact 24 (f := .glo "law") rfl)
  have g_OpenError := He.glo_ok X G (cD.fact 25 (f := .glo "OpenError") rfl)
  have g_BadNumber := He.glo_ok X G (cD.fact 26 (f := .glo "BadNumber") rfl)
  have g_Kept := He.glo_ok X G (cD.fact 27 (f := .glo "Kept") rfl)
  have g_Host := He.glo_ok X G (cD.fact 28 (f := .glo "Host") rfl)
  have g_Letter := He.glo_ok X G (cD.fact 29 (f := .glo "Letter") rfl)
  have g_Asking := He.glo_ok X G (cD.fact 30 (f := .glo "Asking") rfl)
  have z_isinstance := He.free_ok X G (cD.fact 31 (f := .free "isinstance") rfl)
  have z_int := He.free_ok X G (cD.fact 32 (f := .free "int") rfl)
  have z_bool := He.free_ok X G (cD.fact 33 (f := .free "bool") rfl)
  have z_str := He.free_ok X G (cD.fact 34 (f := .free "str") rfl)
  have z_len := He.free_ok X G (cD.fact 35 (f := .free "len") rfl)
  have z_all := He.free_ok X G (cD.fact 36 (f := .free "all") rfl)
  have z_list := He.free_ok X G (cD.fact 37 (f := .free "list") rfl)
  have z_tuple := He.free_ok X G (cD.fact 38 (f := .free "tuple") rfl)
  have z_dict := He.free_ok X G (cD.fact 39 (f := .free "dict") rfl)
  have z_range := He.free_ok X G (cD.fact 40 (f := .free "range") rfl)
  have z_max := He.free_ok X G (cD.fact 41 (f := .free "max") rfl)
  have z_min := He.free_ok X G (cD.fact 42 (f := .free "min") rfl)
  have z_sorted := He.free_ok X G (cD.fact 43 (f := .free "sorted") rfl)
  have z_repr := He.free_ok X G (cD.fact 44 (f := .free "repr") rfl)
  have z_abs := He.free_ok X G (cD.fact 45 (f := .free "abs") rfl)
  have z_enumerate := He.free_ok X G (cD.fact 46 (f := .free "enumerate") rfl)
  have z_iter := He.free_ok X G (cD.fact 47 (f := .free "iter") rfl)
  have cMost := He.int_ok X G (cD.fact 48 (f := .int "MOST_PLACE" 999999999) rfl)
  have x_BadNumber := He.exm_ok (cD.fact 49 (f := .exm "BadNumber" "OpenError" true) rfl)
  have mKept := He.mkr_ok (cD.fact 50 (f := .mkr "Kept") rfl)
  have cl_Kept := He.cls_ok (cD.fact 51 (f := .cls "Kept") rfl)
  have na_Kept_stamp := He.noat_ok (cD.fact 52 (f := .noat "Kept" "stamp") rfl)
  have na_Kept_put := He.noat_ok (cD.fact 53 (f := .noat "Kept" "put") rfl)
  have na_Kept_value := He.noat_ok (cD.fact 54 (f := .noat "Kept" "value") rfl)
  have mHost := He.mkr_ok (cD.fact 55 (f := .mkr "Host") rfl)
  have cl_Host := He.cls_ok (cD.fact 56 (f := .cls "Host") rfl)
  have na_Host_place := He.noat_ok (cD.fact 57 (f := .noat "Host" "place") rfl)
  have na_Host_closed := He.noat_ok (cD.fact 58 (f := .noat "Host" "closed") rfl)
  have na_Host__kepts := He.noat_ok (cD.fact 59 (f := .noat "Host" "_kepts") rfl)
  have mLetter := He.mkr_ok (cD.fact 60 (f := .mkr "Letter") rfl)
  have cl_Letter := He.cls_ok (cD.fact 61 (f := .cls "Letter") rfl)
  have na_Letter_number := He.noat_ok (cD.fact 62 (f := .noat "Letter" "number") rfl)
  have na_Letter_sender := He.noat_ok (cD.fact 63 (f := .noat "Letter" "sender") rfl)
  have na_Letter_receiver := He.noat_ok (cD.fact 64 (f := .noat "Letter" "receiver") rfl)
  have na_Letter_word := He.noat_ok (cD.fact 65 (f := .noat "Letter" "word") rfl)
  have na_Letter_parts := He.noat_ok (cD.fact 66 (f := .noat "Letter" "parts") rfl)
  have mAsking := He.mkr_ok (cD.fact 67 (f := .mkr "Asking") rfl)
  have cl_Asking := He.cls_ok (cD.fact 68 (f := .cls "Asking") rfl)
  have na_Asking_ask := He.noat_ok (cD.fact 69 (f := .noat "Asking" "ask") rfl)
  have na_Asking_word := He.noat_ok (cD.fact 70 (f := .noat "Asking" "word") rfl)
  have na_Asking_key := He.noat_ok (cD.fact 71 (f := .noat "Asking" "key") rfl)
  have na_Asking_epoch := He.noat_ok (cD.fact 72 (f := .noat "Asking" "epoch") rfl)
  have na_Asking_stage := He.noat_ok (cD.fact 73 (f := .noat "Asking" "stage") rfl)
  have na_Asking_attempt := He.noat_ok (cD.fact 74 (f := .noat "Asking" "attempt") rfl)
  have na_Asking_kept := He.noat_ok (cD.fact 75 (f := .noat "Asking" "kept") rfl)
  have na_Asking_noted := He.noat_ok (cD.fact 76 (f := .noat "Asking" "noted") rfl)
  have me_Kept___eq__ := He.meth_ok (cD.fact 77 (f := .meth "Kept" "__eq__") rfl)
  have me_Host_kept := He.meth_ok (cD.fact 78 (f := .meth "Host" "kept") rfl)
  have me_Host_answered := He.meth_ok (cD.fact 79 (f := .meth "Host" "answered") rfl)
  have me_Host___contains__ := He.meth_ok (cD.fact 80 (f := .meth "Host" "__contains__") rfl)
  have me_Host___iter__ := He.meth_ok (cD.fact 81 (f := .meth "Host" "__iter__") rfl)
  have me_Host___len__ := He.meth_ok (cD.fact 82 (f := .meth "Host" "__len__") rfl)
  have me_Host___eq__ := He.meth_ok (cD.fact 83 (f := .meth "Host" "__eq__") rfl)
  have me_Letter___eq__ := He.meth_ok (cD.fact 84 (f := .meth "Letter" "__eq__") rfl)
  have me_Asking___eq__ := He.meth_ok (cD.fact 85 (f := .meth "Asking" "__eq__") rfl)
  obtain ⟨d_is_integer, F_is_integer⟩ := cD.def_ 0 rfl
  have F_is_integer : Fun K "is_integer" "is_integer" (top 2) (He.ga K "is_integer") d_is_integer := fun_of F_is_integer
  have b_is_integer := F_is_integer.binds (ps := ["value"]) fun _ _ _ _ _ _ us hl => match us, hl with | [_], _ => rfl
  obtain ⟨d_is_within, F_is_within⟩ := cD.def_ 1 rfl
  have F_is_within : Fun K "is_within" "is_within" (top 3) (He.ga K "is_within") d_is_within := fun_of F_is_within
  have b_is_within := F_is_within.binds (ps := ["value", "least", "most"]) fun _ _ _ _ _ _ us hl => match us, hl with | [_, _, _], _ => rfl
  obtain ⟨d_is_place, F_is_place⟩ := cD.def_ 2 rfl
  have F_is_place : Fun K "is_place" "is_place" (top 4) (He.ga K "is_place") d_is_place := fun_of F_is_place
  have b_is_place := F_is_place.binds (ps := ["value"]) fun _ _ _ _ _ _ us hl => match us, hl with | [_], _ => rfl
  obtain ⟨d_copied, F_copied⟩ := cD.def_ 3 rfl
  have F_copied : Fun K "copied" "copied" (top 6) (He.ga K "copied") d_copied := fun_of F_copied
  have b_copied := F_copied.binds (ps := ["value"]) fun _ _ _ _ _ _ us hl => match us, hl with | [_], _ => rfl
  obtain ⟨d_nothing, F_nothing⟩ := cD.def_ 4 rfl
  have F_nothing : Fun K "nothing" "nothing" (top 12) (He.ga K "nothing") d_nothing := fun_of F_nothing
  have b_nothing := F_nothing.binds (ps := []) fun _ _ _ _ _ _ us hl => match us, hl with | [], _ => rfl
  obtain ⟨d_is_greater, F_is_greater⟩ := cD.def_ 5 rfl
  have F_is_greater : FunD K "is_greater" "is_greater" (defArgs (top 13)) (defBody (top 13)) (defScope (top 13)) [.bl true] [] (He.ga K "is_greater") d_is_greater := F_is_greater
  obtain ⟨d_greatest, F_greatest⟩ := cD.def_ 6 rfl
  have F_greatest : FunD K "greatest" "greatest" (defArgs (top 14)) (defBody (top 14)) (defScope (top 14)) [.bl true] [] (He.ga K "greatest") d_greatest := F_greatest
  obtain ⟨d_host_with, F_host_with⟩ := cD.def_ 7 rfl
  have F_host_with : Fun K "host_with" "host_with" (top 17) (He.ga K "host_with") d_host_with := fun_of F_host_with
  have b_host_with := F_host_with.binds (ps := ["host", "closed", "kepts"]) fun _ _ _ _ _ _ us hl => match us, hl with | [_, _, _], _ => rfl
  obtain ⟨d_keeping, F_keeping⟩ := cD.def_ 8 rfl
  have F_keeping : Fun K "keeping" "keeping" (top 18) (He.ga K "keeping") d_keeping := fun_of F_keeping
  have b_keeping := F_keeping.binds (ps := ["host", "key", "kept", "cares"]) fun _ _ _ _ _ _ us hl => match us, hl with | [_, _, _, _], _ => rfl
  obtain ⟨d_l_well, F_l_well⟩ := cD.def_ 9 rfl
  have F_l_well : Fun K "_law_well" "_law_well" (top 24) (He.ga K "_law_well") d_l_well := fun_of F_l_well
  have b_l_well := F_l_well.binds (ps := ["script"]) fun _ _ _ _ _ _ us hl => match us, hl with | [_], _ => rfl
  obtain ⟨d_l_draw, F_l_draw⟩ := cD.def_ 10 rfl
  have F_l_draw : Fun K "_law_draw" "_law_draw" (top 25) (He.ga K "_law_draw") d_l_draw := fun_of F_l_draw
  have b_l_draw := F_l_draw.binds (ps := ["well", "many"]) fun _ _ _ _ _ _ us hl => match us, hl with | [_, _], _ => rfl
  obtain ⟨d_l_one, F_l_one⟩ := cD.def_ 11 rfl
  have F_l_one : Fun K "_law_one" "_law_one" (top 26) (He.ga K "_law_one") d_l_one := fun_of F_l_one
  have b_l_one := F_l_one.binds (ps := ["well", "some"]) fun _ _ _ _ _ _ us hl => match us, hl with | [_, _], _ => rfl
  obtain ⟨d_l_kept, F_l_kept⟩ := cD.def_ 12 rfl
  have F_l_kept : Fun K "_law_kept" "_law_kept" (top 27) (He.ga K "_law_kept") d_l_kept := fun_of F_l_kept
  have b_l_kept := F_l_kept.binds (ps := ["well"]) fun _ _ _ _ _ _ us hl => match us, hl with | [_], _ => rfl
  obtain ⟨d_l_made, F_l_made⟩ := cD.def_ 13 rfl
  have F_l_made : Fun K "_law_made" "_law_made" (top 28) (He.ga K "_law_made") d_l_made := fun_of F_l_made
  have b_l_made := F_l_made.binds (ps := ["told"]) fun _ _ _ _ _ _ us hl => match us, hl with | [_], _ => rfl
  obtain ⟨d_l_stamps_right, F_l_stamps_right⟩ := cD.def_ 14 rfl
  have F_l_stamps_right : Fun K "_law_stamps_right" "_law_stamps_right" (top 29) (He.ga K "_law_stamps_right") d_l_stamps_right := fun_of F_l_stamps_right
  have b_l_stamps_right := F_l_stamps_right.binds (ps := ["well"]) fun _ _ _ _ _ _ us hl => match us, hl with | [_], _ => rfl
  obtain ⟨d_l_papers_right, F_l_papers_right⟩ := cD.def_ 15 rfl
  have F_l_papers_right : Fun K "_law_papers_right" "_law_papers_right" (top 30) (He.ga K "_law_papers_right") d_l_papers_right := fun_of F_l_papers_right
  have b_l_papers_right := F_l_papers_right.binds (ps := ["well"]) fun _ _ _ _ _ _ us hl => match us, hl with | [_], _ => rfl
  obtain ⟨d_l_stored, F_l_stored⟩ := cD.def_ 16 rfl
  have F_l_stored : Fun K "_law_stored" "_law_stored" (top 31) (He.ga K "_law_stored") d_l_stored := fun_of F_l_stored
  have b_l_stored := F_l_stored.binds (ps := ["plain", "key", "told", "cares"]) fun _ _ _ _ _ _ us hl => match us, hl with | [_, _, _, _], _ => rfl
  obtain ⟨d_l_answer, F_l_answer⟩ := cD.def_ 17 rfl
  have F_l_answer : Fun K "_law_answer" "_law_answer" (top 32) (He.ga K "_law_answer") d_l_answer := fun_of F_l_answer
  have b_l_answer := F_l_answer.binds (ps := ["plain", "word", "parts", "cares"]) fun _ _ _ _ _ _ us hl => match us, hl with | [_, _, _, _], _ => rfl
  obtain ⟨d_l_letter, F_l_letter⟩ := cD.def_ 18 rfl
  have F_l_letter : Fun K "_law_letter" "_law_letter" (top 33) (He.ga K "_law_letter") d_l_letter := fun_of F_l_letter
  have b_l_letter := F_l_letter.binds (ps := ["well", "keys"]) fun _ _ _ _ _ _ us hl => match us, hl with | [_, _], _ => rfl
  obtain ⟨d_l_stands, F_l_stands⟩ := cD.def_ 19 rfl
  have F_l_stands : Fun K "_law_stands" "_law_stands" (top 34) (He.ga K "_law_stands") d_l_stands := fun_of F_l_stands
  have b_l_stands := F_l_stands.binds (ps := ["host", "place", "plain", "keys"]) fun _ _ _ _ _ _ us hl => match us, hl with | [_, _, _, _], _ => rfl
  obtain ⟨d_l_host_right, F_l_host_right⟩ := cD.def_ 20 rfl
  have F_l_host_right : Fun K "_law_host_right" "_law_host_right" (top 35) (He.ga K "_law_host_right") d_l_host_right := fun_of F_l_host_right
  have b_l_host_right := F_l_host_right.binds (ps := ["well"]) fun _ _ _ _ _ _ us hl => match us, hl with | [_], _ => rfl
  obtain ⟨d_l_made_asking, F_l_made_asking⟩ := cD.def_ 21 rfl
  have F_l_made_asking : Fun K "_law_made_asking" "_law_made_asking" (top 36) (He.ga K "_law_made_asking") d_l_made_asking := fun_of F_l_made_asking
  have b_l_made_asking := F_l_made_asking.binds (ps := ["row"]) fun _ _ _ _ _ _ us hl => match us, hl with | [_], _ => rfl
  obtain ⟨d_l_askings_right, F_l_askings_right⟩ := cD.def_ 22 rfl
  have F_l_askings_right : Fun K "_law_askings_right" "_law_askings_right" (top 37) (He.ga K "_law_askings_right") d_l_askings_right := fun_of F_l_askings_right
  have b_l_askings_right := F_l_askings_right.binds (ps := ["well"]) fun _ _ _ _ _ _ us hl => match us, hl with | [_], _ => rfl
  obtain ⟨d_l_refused_right, F_l_refused_right⟩ := cD.def_ 23 rfl
  have F_l_refused_right : Fun K "_law_refused_right" "_law_refused_right" (top 38) (He.ga K "_law_refused_right") d_l_refused_right := fun_of F_l_refused_right
  have b_l_refused_right := F_l_refused_right.binds (ps := ["well"]) fun _ _ _ _ _ _ us hl => match us, hl with | [_], _ => rfl
  obtain ⟨d_law, F_law⟩ := cD.def_ 24 rfl
  have F_law : Fun K "law" "law" (top 39) (He.ga K "law") d_law := fun_of F_law
  have b_law := F_law.binds (ps := ["script"]) fun _ _ _ _ _ _ us hl => match us, hl with | [_], _ => rfl
  obtain ⟨d_eB, F_eB⟩ := cD.def_ 25 rfl
  have F_eB : Fun K "__init__" "BadNumber.__init__" (mem 9 0) (He.ma K (He.ga K "BadNumber") "__init__") d_eB := fun_of F_eB
  obtain ⟨d_kI, F_kI⟩ := cD.def_ 26 rfl
  have F_kI : Fun K "__init__" "Kept.__init__" (mem 11 0) (He.ma K (He.ga K "Kept") "__init__") d_kI := fun_of F_kI
  have b_kI := F_kI.binds (ps := ["self", "stamp", "put", "value"]) fun _ _ _ _ _ _ us hl => match us, hl with | [_, _, _, _], _ => rfl
  obtain ⟨d_kE, F_kE⟩ := cD.def_ 27 rfl
  have F_kE : Fun K "__eq__" "Kept.__eq__" (mem 11 1) (He.ma K (He.ga K "Kept") "__eq__") d_kE := fun_of F_kE
  have b_kE := F_kE.binds (ps := ["self", "other"]) fun _ _ _ _ _ _ us hl => match us, hl with | [_, _], _ => rfl
  obtain ⟨d_hI, F_hI⟩ := cD.def_ 28 rfl
  have F_hI : Fun K "__init__" "Host.__init__" (mem 16 0) (He.ma K (He.ga K "Host") "__init__") d_hI := fun_of F_hI
  have b_hI := F_hI.binds (ps := ["self", "place"]) fun _ _ _ _ _ _ us hl => match us, hl with | [_, _], _ => rfl
  obtain ⟨d_hK, F_hK⟩ := cD.def_ 29 rfl
  have F_hK : Fun K "kept" "Host.kept" (mem 16 1) (He.ma K (He.ga K "Host") "kept") d_hK := fun_of F_hK
  have b_hK := F_hK.binds (ps := ["self", "key"]) fun _ _ _ _ _ _ us hl => match us, hl with | [_, _], _ => rfl
  obtain ⟨d_hA, F_hA⟩ := cD.def_ 30 rfl
  have F_hA : FunD K "answered" "Host.answered" (defArgs sAn) (defBody sAn) (defScope sAn) [.ref (tE K)] [] (He.ma K (He.ga K "Host") "answered") d_hA := F_hA
  obtain ⟨d_hC, F_hC⟩ := cD.def_ 31 rfl
  have F_hC : Fun K "__contains__" "Host.__contains__" (mem 16 3) (He.ma K (He.ga K "Host") "__contains__") d_hC := fun_of F_hC
  have b_hC := F_hC.binds (ps := ["self", "key"]) fun _ _ _ _ _ _ us hl => match us, hl with | [_, _], _ => rfl
  obtain ⟨d_hIt, F_hIt⟩ := cD.def_ 32 rfl
  have F_hIt : Fun K "__iter__" "Host.__iter__" (mem 16 4) (He.ma K (He.ga K "Host") "__iter__") d_hIt := fun_of F_hIt
  have b_hIt := F_hIt.binds (ps := ["self"]) fun _ _ _ _ _ _ us hl => match us, hl with | [_], _ => rfl
  obtain ⟨d_hL, F_hL⟩ := cD.def_ 33 rfl
  have F_hL : Fun K "__len__" "Host.__len__" (mem 16 5) (He.ma K (He.ga K "Host") "__len__") d_hL := fun_of F_hL
  have b_hL := F_hL.binds (ps := ["self"]) fun _ _ _ _ _ _ us hl => match us, hl with | [_], _ => rfl
  obtain ⟨d_hE, F_hE⟩ := cD.def_ 34 rfl
  have F_hE : Fun K "__eq__" "Host.__eq__" (mem 16 7) (He.ma K (He.ga K "Host") "__eq__") d_hE := fun_of F_hE
  have b_hE := F_hE.binds (ps := ["self", "other"]) fun _ _ _ _ _ _ us hl => match us, hl with | [_, _], _ => rfl
  obtain ⟨d_lI, F_lI⟩ := cD.def_ 35 rfl
  have F_lI : Fun K "__init__" "Letter.__init__" (mem 20 0) (He.ma K (He.ga K "Letter") "__init__") d_lI := fun_of F_lI
  have b_lI := F_lI.binds (ps := ["self", "number", "sender", "receiver", "word", "parts"]) fun _ _ _ _ _ _ us hl => match us, hl with | [_, _, _, _, _, _], _ => rfl
  obtain ⟨d_lE, F_lE⟩ := cD.def_ 36 rfl
  have F_lE : Fun K "__eq__" "Letter.__eq__" (mem 20 1) (He.ma K (He.ga K "Letter") "__eq__") d_lE := fun_of F_lE
  have b_lE := F_lE.binds (ps := ["self", "other"]) fun _ _ _ _ _ _ us hl => match us, hl with | [_, _], _ => rfl
  obtain ⟨d_aI, F_aI⟩ := cD.def_ 37 rfl
  have F_aI : Fun K "__init__" "Asking.__init__" (mem 22 0) (He.ma K (He.ga K "Asking") "__init__") d_aI := fun_of F_aI
  have b_aI := F_aI.binds (ps := ["self", "ask", "word", "key", "epoch", "stage", "attempt", "kept", "noted"]) fun _ _ _ _ _ _ us hl => match us, hl with | [_, _, _, _, _, _, _, _, _], _ => rfl
  obtain ⟨d_aE, F_aE⟩ := cD.def_ 38 rfl
  have F_aE : Fun K "__eq__" "Asking.__eq__" (mem 22 1) (He.ma K (He.ga K "Asking") "__eq__") d_aE := fun_of F_aE
  have b_aE := F_aE.binds (ps := ["self", "other"]) fun _ _ _ _ _ _ us hl => match us, hl with | [_, _], _ => rfl
  have TB0 : B0 mg := ⟨z_isinstance, z_int, z_bool, z_str, z_len, z_all, z_list, z_tuple, z_dict⟩
  have T : B1 mg := ⟨TB0, z_range, z_max, z_min, z_sorted, z_repr, z_abs, z_enumerate⟩
  have no7_Kept : ∀ (T : String), T ∈ ["NoneType", "bool", "int", "str", "list", "tuple", "dict"] → PySem.W.kitOne K (.type T) (.ref (He.ga K "Kept")) = some false := fun T m => by
    rcases List.mem_cons.mp m with rfl | m
    · exact kit 2 _ rfl
    rcases List.mem_cons.mp m with rfl | m
    · exact kit 3 _ rfl
    rcases List.mem_cons.mp m with rfl | m
    · exact kit 4 _ rfl
    rcases List.mem_cons.mp m with rfl | m
    · exact kit 5 _ rfl
    rcases List.mem_cons.mp m with rfl | m
    · exact kit 6 _ rfl
    rcases List.mem_cons.mp m with rfl | m
    · exact kit 7 _ rfl
    rcases List.mem_cons.mp m with rfl | m
    · exact kit 8 _ rfl
    cases m
  have no_Kept : ∀ f ∈ kF, NoAttr K (He.ga K "Kept") f := fun f m => by
    rcases List.mem_cons.mp m with rfl | m
    · exact na_Kept_stamp
    rcases List.mem_cons.mp m with rfl | m
    · exact na_Kept_put
    rcases List.mem_cons.mp m with rfl | m
    · exact na_Kept_value
    cases m
  have AK : ClsF K mg "Kept" (He.ga K "Kept") kF := ⟨g_Kept, cl_Kept, no_Kept, fun H a dx fs e => .ins e cl_Kept (He.eqO_ok hKept1) (He.eqO_ok hKept2) (of_decide_eq_true hKept3) (of_decide_eq_true hKept4), kit 1 _ rfl, no7_Kept, kit 9 _ rfl, kit 10 _ rfl, kit 11 _ rfl⟩
  have no7_Host : ∀ (T : String), T ∈ ["NoneType", "bool", "int", "str", "list", "tuple", "dict"] → PySem.W.kitOne K (.type T) (.ref (He.ga K "Host")) = some false := fun T m => by
    rcases List.mem_cons.mp m with rfl | m
    · exact kit 13 _ rfl
    rcases List.mem_cons.mp m with rfl | m
    · exact kit 14 _ rfl
    rcases List.mem_cons.mp m with rfl | m
    · exact kit 15 _ rfl
    rcases List.mem_cons.mp m with rfl | m
    · exact kit 16 _ rfl
    rcases List.mem_cons.mp m with rfl | m
    · exact kit 17 _ rfl
    rcases List.mem_cons.mp m with rfl | m
    · exact kit 18 _ rfl
    rcases List.mem_cons.mp m with rfl | m
    · exact kit 19 _ rfl
    cases m
  have no_Host : ∀ f ∈ hF, NoAttr K (He.ga K "Host") f := fun f m => by
    rcases List.mem_cons.mp m with rfl | m
    · exact na_Host_place
    rcases List.mem_cons.mp m with rfl | m
    · exact na_Host_closed
    rcases List.mem_cons.mp m with rfl | m
    · exact na_Host__kepts
    cases m
  have AH : ClsF K mg "Host" (He.ga K "Host") hF := ⟨g_Host, cl_Host, no_Host, fun H a dx fs e => .ins e cl_Host (He.eqO_ok hHost1) (He.eqO_ok hHost2) (of_decide_eq_true hHost3) (of_decide_eq_true hHost4), kit 12 _ rfl, no7_Host, kit 20 _ rfl, kit 21 _ rfl, kit 22 _ rfl⟩
  have no7_Letter : ∀ (T : String), T ∈ ["NoneType", "bool", "int", "str", "list", "tuple", "dict"] → PySem.W.kitOne K (.type T) (.ref (He.ga K "Letter")) = some false := fun T m => by
    rcases List.mem_cons.mp m with rfl | m
    · exact kit 24 _ rfl
    rcases List.mem_cons.mp m with rfl | m
    · exact kit 25 _ rfl
    rcases List.mem_cons.mp m with rfl | m
    · exact kit 26 _ rfl
    rcases List.mem_cons.mp m with rfl | m
    · exact kit 27 _ rfl
    rcases List.mem_cons.mp m with rfl | m
    · exact kit 28 _ rfl
    rcases List.mem_cons.mp m with rfl | m
    · exact kit 29 _ rfl
    rcases List.mem_cons.mp m with rfl | m
    · exact kit 30 _ rfl
    cases m
  have no_Letter : ∀ f ∈ lF, NoAttr K (He.ga K "Letter") f := fun f m => by
    rcases List.mem_cons.mp m with rfl | m
    · exact na_Letter_number
    rcases List.mem_cons.mp m with rfl | m
    · exact na_Letter_sender
    rcases List.mem_cons.mp m with rfl | m
    · exact na_Letter_receiver
    rcases List.mem_cons.mp m with rfl | m
    · exact na_Letter_word
    rcases List.mem_cons.mp m with rfl | m
    · exact na_Letter_parts
    cases m
  have AL : ClsF K mg "Letter" (He.ga K "Letter") lF := ⟨g_Letter, cl_Letter, no_Letter, fun H a dx fs e => .ins e cl_Letter (He.eqO_ok hLetter1) (He.eqO_ok hLetter2) (of_decide_eq_true hLetter3) (of_decide_eq_true hLetter4), kit 23 _ rfl, no7_Letter, kit 31 _ rfl, kit 32 _ rfl, kit 33 _ rfl⟩
  have no7_Asking : ∀ (T : String), T ∈ ["NoneType", "bool", "int", "str", "list", "tuple", "dict"] → PySem.W.kitOne K (.type T) (.ref (He.ga K "Asking")) = some false := fun T m => by
    rcases List.mem_cons.mp m with rfl | m
    · exact kit 35 _ rfl
    rcases List.mem_cons.mp m with rfl | m
    · exact kit 36 _ rfl
    rcases List.mem_cons.mp m with rfl | m
    · exact kit 37 _ rfl
    rcases List.mem_cons.mp m with rfl | m
    · exact kit 38 _ rfl
    rcases List.mem_cons.mp m with rfl | m
    · exact kit 39 _ rfl
    rcases List.mem_cons.mp m with rfl | m
    · exact kit 40 _ rfl
    rcases List.mem_cons.mp m with rfl | m
    · exact kit 41 _ rfl
    cases m
  have no_Asking : ∀ f ∈ aF, NoAttr K (He.ga K "Asking") f := fun f m => by
    rcases List.mem_cons.mp m with rfl | m
    · exact na_Asking_ask
    rcases List.mem_cons.mp m with rfl | m
    · exact na_Asking_word
    rcases List.mem_cons.mp m with rfl | m
    · exact na_Asking_key
    rcases List.mem_cons.mp m with rfl | m
    · exact na_Asking_epoch
    rcases List.mem_cons.mp m with rfl | m
    · exact na_Asking_stage
    rcases List.mem_cons.mp m with rfl | m
    · exact na_Asking_attempt
    rcases List.mem_cons.mp m with rfl | m
    · exact na_Asking_kept
    rcases List.mem_cons.mp m with rfl | m
    · exact na_Asking_noted
    cases m
  have AA : ClsF K mg "Asking" (He.ga K "Asking") aF := ⟨g_Asking, cl_Asking, no_Asking, fun H a dx fs e => .ins e cl_Asking (He.eqO_ok hAsking1) (He.eqO_ok hAsking2) (of_decide_eq_true hAsking3) (of_decide_eq_true hAsking4), kit 34 _ rfl, no7_Asking, kit 42 _ rfl, kit 43 _ rfl, kit 44 _ rfl⟩
  have O_Kept : OwnEqF K (He.ga K "Kept") (He.ma K (He.ga K "Kept") "__eq__") d_kE ["self", "other"] := ⟨me_Kept___eq__.at_, me_Kept___eq__.fn, He.eqO_ok hKept5, of_decide_eq_true hKept4, b_kE⟩
  have O_Host : OwnEqF K (He.ga K "Host") (He.ma K (He.ga K "Host") "__eq__") d_hE ["self", "other"] := ⟨me_Host___eq__.at_, me_Host___eq__.fn, He.eqO_ok hHost5, of_decide_eq_true hHost4, b_hE⟩
  have O_Letter : OwnEqF K (He.ga K "Letter") (He.ma K (He.ga K "Letter") "__eq__") d_lE ["self", "other"] := ⟨me_Letter___eq__.at_, me_Letter___eq__.fn, He.eqO_ok hLetter5, of_decide_eq_true hLetter4, b_lE⟩
  have O_Asking : OwnEqF K (He.ga K "Asking") (He.ma K (He.ga K "Asking") "__eq__") d_aE ["self", "other"] := ⟨me_Asking___eq__.at_, me_Asking___eq__.fn, He.eqO_ok hAsking5, of_decide_eq_true hAsking4, b_aE⟩
  have bG : Binds K d_is_greater ["one", "other", "names"] [] := by
    obtain ⟨ds, v, b⟩ := F_is_greater.binds1 (ps := ["one", "other", "names"]) 3 1 (List.cons_ne_nil _ _) rfl fun T kV doc pm an cdv ct us its h1 h2 => match us, its, h1, h2 with
      | [_, _, _], [_], _, _ => ⟨_, rfl, rfl⟩
    cases v
    exact b
  have bG1 : Binds K d_is_greater ["one", "other", "names"] [.bool true] := by
    obtain ⟨ds, v, b⟩ := F_is_greater.binds1 (ps := ["one", "other", "names"]) 2 0 (List.cons_ne_nil _ _) rfl fun T kV doc pm an cdv ct us its h1 h2 => match us, its, h1, h2 with
      | [_, _], [_], _, _ => ⟨_, rfl, rfl⟩
    cases v with
    | cons r v =>
      cases v
      cases r
      exact b
  have bGt : Binds K d_greatest ["kepts", "names"] [] := by
    obtain ⟨ds, v, b⟩ := F_greatest.binds1 (ps := ["kepts", "names"]) 2 1 (List.cons_ne_nil _ _) rfl fun T kV doc pm an cdv ct us its h1 h2 => match us, its, h1, h2 with
      | [_, _], [_], _, _ => ⟨_, rfl, rfl⟩
    cases v
    exact b
  have bGt1 : Binds K d_greatest ["kepts", "names"] [.bool true] := by
    obtain ⟨ds, v, b⟩ := F_greatest.binds1 (ps := ["kepts", "names"]) 1 0 (List.cons_ne_nil _ _) rfl fun T kV doc pm an cdv ct us its h1 h2 => match us, its, h1, h2 with
      | [_], [_], _, _ => ⟨_, rfl, rfl⟩
    cases v with
    | cons r v =>
      cases v
      cases r
      exact b
  have bA : Binds K d_hA ["self", "word", "parts", "cares"] [] := by
    obtain ⟨ds, v, b⟩ := F_hA.binds1 (ps := ["self", "word", "parts", "cares"]) 4 1 (List.cons_ne_nil _ _) rfl fun T kV doc pm an cdv ct us its h1 h2 => match us, its, h1, h2 with
      | [_, _, _, _], [_], _, _ => ⟨_, rfl, rfl⟩
    cases v
    exact b
  have bA1 : Binds K d_hA ["self", "word", "parts", "cares"] [.ref (tE K)] := by
    obtain ⟨ds, v, b⟩ := F_hA.binds1 (ps := ["self", "word", "parts", "cares"]) 3 0 (List.cons_ne_nil _ _) rfl fun T kV doc pm an cdv ct us its h1 h2 => match us, its, h1, h2 with
      | [_, _, _], [_], _, _ => ⟨_, rfl, rfl⟩
    cases v with
    | cons r v =>
      cases v
      cases r
      exact b
  have kG : ∃ g, KBn K d_is_greater ["one", "other", "names"] 2 ["names"] g fun vs zs => vs ++ zs := by
    obtain ⟨its, k⟩ := F_is_greater.kbindsD (ps := ["one", "other", "names"]) 2 ["names"] (fun us _ ws => us ++ ws) (by decide) (fun a _ b => a.append b) fun T kV doc pm an cdv ct us its ws h1 h2 h3 => match us, its, ws, h1, h2, h3 with
      | [_, _], [_], [_], _, _, _ => ⟨_, rfl, rfl⟩
    exact ⟨_, k⟩
  refine ⟨d_law, [], spLaw K, (fun p hp => nomatch hp), (fun p hp => nomatch hp), (fun p hp => nomatch hp), fun s u => ?_, fun H a ns hl _ hH hS => ?_, fun base X2 G2 hb hT => ?_⟩
  · obtain ⟨oc, od, kV, doc, pm, an, cdv, ct, osl, rfl, _⟩ := F_law.ex
    exact .of_eq rfl
  · exact ⟨a, ns, rfl, hS, hl, fun _ => rfl⟩
  · have efa := hfa.symm.trans g_law
    cases efa
    have MB := mk_BadNumber (P := PySem.Challenge.rw_stayopen_k27_stamps_letters_and_hosts.prog) (w := w) (base := base) eB g_BadNumber F_eB TB0 g_copied F_copied b_copied
    have GW := ok_within (P := PySem.Challenge.rw_stayopen_k27_stamps_letters_and_hosts.prog) (w := w) (base := base) F_is_within TB0 g_is_integer F_is_integer b_is_integer
    have GP := ok_place F_is_place cMost g_is_within GW F_is_within.kp b_is_within
    have GI_Kept := fun n => ok_initN (P := PySem.Challenge.rw_stayopen_k27_stamps_letters_and_hosts.prog) (w := w) (base := base) (st := sKI) (names := kF) F_kI ⟨rfl, rfl, rfl, by decide +kernel, rfl, by decide +kernel, by decide +kernel⟩ (.cons (.cons (.cons .nil))) rfl (fun x m => by
      rcases List.mem_cons.mp m with rfl | m
      · rfl
      rcases List.mem_cons.mp m with rfl | m
      · rfl
      rcases List.mem_cons.mp m with rfl | m
      · rfl
      cases m) rfl (by decide) cl_Kept no_Kept (by decide) (by decide) TB0 g_copied F_copied b_copied n
    have M_Kept : MkC PySem.Challenge.rw_stayopen_k27_stamps_letters_and_hosts.prog w K mg base (He.ga K "Kept") kF := ⟨fun n => ⟨_, _, mKept, GI_Kept n, b_kI⟩⟩
    have GI_Letter := fun n => ok_initN (P := PySem.Challenge.rw_stayopen_k27_stamps_letters_and_hosts.prog) (w := w) (base := base) (st := sLI) (names := lF) F_lI ⟨rfl, rfl, rfl, by decide +kernel, rfl, by decide +kernel, by decide +kernel⟩ (.cons (.cons (.cons (.cons (.cons .nil))))) rfl (fun x m => by
      rcases List.mem_cons.mp m with rfl | m
      · rfl
      rcases List.mem_cons.mp m with rfl | m
      · rfl
      rcases List.mem_cons.mp m with rfl | m
      · rfl
      rcases List.mem_cons.mp m with rfl | m
      · rfl
      rcases List.mem_cons.mp m with rfl | m
      · rfl
      cases m) rfl (by decide) cl_Letter no_Letter (by decide) (by decide) TB0 g_copied F_copied b_copied n
    have M_Letter : MkC PySem.Challenge.rw_stayopen_k27_stamps_letters_and_hosts.prog w K mg base (He.ga K "Letter") lF := ⟨fun n => ⟨_, _, mLetter, GI_Letter n, b_lI⟩⟩
    have GI_Asking := fun n => ok_initN (P := PySem.Challenge.rw_stayopen_k27_stamps_letters_and_hosts.prog) (w := w) (base := base) (st := sAI) (names := aF) F_aI ⟨rfl, rfl, rfl, by decide +kernel, rfl, by decide +kernel, by decide +kernel⟩ (.cons (.cons (.cons (.cons (.cons (.cons (.cons (.cons .nil)))))))) rfl (fun x m => by
      rcases List.mem_cons.mp m with rfl | m
      · rfl
      rcases List.mem_cons.mp m with rfl | m
      · rfl
      rcases List.mem_cons.mp m with rfl | m
      · rfl
      rcases List.mem_cons.mp m with rfl | m
      · rfl
      rcases List.mem_cons.mp m with rfl | m
      · rfl
      rcases List.mem_cons.mp m with rfl | m
      · rfl
      rcases List.mem_cons.mp m with rfl | m
      · rfl
      rcases List.mem_cons.mp m with rfl | m
      · rfl
      cases m) rfl (by decide) cl_Asking no_Asking (by decide) (by decide) TB0 g_copied F_copied b_copied n
    have M_Asking : MkC PySem.Challenge.rw_stayopen_k27_stamps_letters_and_hosts.prog w K mg base (He.ga K "Asking") aF := ⟨fun n => ⟨_, _, mAsking, GI_Asking n, b_aI⟩⟩
    have GNo := ok_noth F_nothing AK M_Kept
    have GG := ok_gr (P := PySem.Challenge.rw_stayopen_k27_stamps_letters_and_hosts.prog) (w := w) (base := base) F_is_greater AK
    have GGt := ok_great F_greatest g_is_greater GG F_is_greater.kp bG
    have GHI := ok_hi F_hI AH g_is_place GP F_is_place.kp b_is_place MB
    have GHK := ok_hk F_hK AH g_is_place GP F_is_place.kp b_is_place MB g_nothing GNo F_nothing.kp b_nothing
    have GKE := ok_ke (P := PySem.Challenge.rw_stayopen_k27_stamps_letters_and_hosts.prog) (w := w) (base := base) F_kE AK TB0
    have GHW := ok_hw (CK := He.ga K "Kept") F_host_with AH T mHost GHI b_hI
    have HF : HoF PySem.Challenge.rw_stayopen_k27_stamps_letters_and_hosts.prog w K mg base (He.ga K "Kept") (He.ga K "Host") (He.ga K "BadNumber") (He.ma K (He.ga K "Host") "__iter__") := ⟨AH, AK, ⟨_, _, g_is_greater, GG, F_is_greater.kp, bG⟩, ⟨_, _, g_host_with, GHW, F_host_with.kp, b_host_with⟩, ⟨_, _, GKE, O_Kept, nof 0 _ rfl⟩, ⟨_, _, g_nothing, GNo, F_nothing.kp, b_nothing⟩, ⟨_, _, me_Host_kept, GHK, b_hK⟩, ok_hit F_hIt AH z_iter b_hIt me_Host___iter__.at_ me_Host___iter__.fn⟩
    have HM : HoM PySem.Challenge.rw_stayopen_k27_stamps_letters_and_hosts.prog w K mg base (He.ga K "Kept") (He.ga K "Host") := ⟨⟨_, _, ok_hl F_hL AH TB0, b_hL, me_Host___len__.at_, me_Host___len__.fn⟩, ⟨_, _, ok_hc F_hC AH g_is_place GP F_is_place.kp b_is_place, b_hC, me_Host___contains__.at_, me_Host___contains__.fn⟩⟩
    have GKp := ok_kp F_keeping T HF
    have GAn := ok_an F_hA T HF g_keeping GKp F_keeping.kp b_keeping
    have HA : HoA PySem.Challenge.rw_stayopen_k27_stamps_letters_and_hosts.prog w K mg base (He.ga K "Kept") (He.ga K "Host") (He.ga K "BadNumber") (tE K) := ⟨⟨_, _, mHost, GHI, b_hI⟩, ⟨_, _, ok_he F_hE AH TB0 GKE O_Kept, O_Host⟩, ⟨_, _, me_Host_answered, GAn, bA, bA1⟩, em_ok hem, nof 1 _ rfl, nof 2 _ rfl⟩
    have GA : GrA PySem.Challenge.rw_stayopen_k27_stamps_letters_and_hosts.prog w K mg base (He.ga K "Kept") := ⟨⟨_, _, g_is_greater, GG, F_is_greater.kp, bG1, kG⟩, ⟨_, _, g_greatest, GGt, F_greatest.kp, bGt1, bGt⟩⟩
    have EE := errI_ok eB g_BadNumber
    have EA : ErA PySem.Challenge.rw_stayopen_k27_stamps_letters_and_hosts.prog w K mg base (He.ga K "Kept") (He.ga K "Host") (He.ga K "BadNumber") (He.ga K "OpenError") := ⟨⟨_, _, mHost, GHI, b_hI⟩, EE.ex, EE.no _ List.mem_cons_self, g_BadNumber, g_OpenError, x_BadNumber, kit 0 _ rfl⟩
    have LE : LetA PySem.Challenge.rw_stayopen_k27_stamps_letters_and_hosts.prog w K mg base (He.ga K "Kept") (He.ga K "Letter") := ⟨AL, ⟨_, _, ok_le F_lE AL TB0, O_Letter, nof 3 _ rfl, nof 4 _ rfl⟩, ⟨_, _, mLetter, GI_Letter 3, b_lI, kbnL F_lI fun _ _ _ _ _ _ _ _ _ _ _ _ => rfl⟩⟩
    have AS : AskA PySem.Challenge.rw_stayopen_k27_stamps_letters_and_hosts.prog w K mg base (He.ga K "Asking") := ⟨AA, ⟨_, _, ok_ae F_aE AA TB0, O_Asking, nof 5 _ rfl, nof 6 _ rfl⟩, ⟨_, _, mAsking, GI_Asking 3, kbnA F_aI fun _ _ _ _ _ _ _ _ _ _ _ _ _ _ _ => rfl⟩⟩
    have c_draw : Cal PySem.Challenge.rw_stayopen_k27_stamps_letters_and_hosts.prog w K mg base "_law_draw" 1 ["well", "many"] spDraw := ⟨_, _, g__law_draw, ok_draw F_l_draw T, F_l_draw.kp, b_l_draw⟩
    have c_one : Cal PySem.Challenge.rw_stayopen_k27_stamps_letters_and_hosts.prog w K mg base "_law_one" 2 ["well", "some"] spOne := ⟨_, _, g__law_one, ok_one F_l_one T g__law_draw F_l_draw b_l_draw, F_l_one.kp, b_l_one⟩
    have c_well : Cal PySem.Challenge.rw_stayopen_k27_stamps_letters_and_hosts.prog w K mg base "_law_well" 1 ["script"] (spPen K) := ⟨_, _, g__law_well, ok_well F_l_well T, F_l_well.kp, b_l_well⟩
    have c_kept : Cal PySem.Challenge.rw_stayopen_k27_stamps_letters_and_hosts.prog w K mg base "_law_kept" 3 ["well"] spLK := ⟨_, _, g__law_kept, ok_lk F_l_kept c_draw c_one, F_l_kept.kp, b_l_kept⟩
    have c_made : Cal PySem.Challenge.rw_stayopen_k27_stamps_letters_and_hosts.prog w K mg base "_law_made" 5 ["told"] (spLM K (He.ga K "Kept")) := ⟨_, _, g__law_made, ok_lm F_l_made AK M_Kept, F_l_made.kp, b_l_made⟩
    have c_stored : Cal PySem.Challenge.rw_stayopen_k27_stamps_letters_and_hosts.prog w K mg base "_law_stored" 1 ["plain", "key", "told", "cares"] (spLS K) := ⟨_, _, g__law_stored, ok_ls F_l_stored T, F_l_stored.kp, b_l_stored⟩
    have c_answer : Cal PySem.Challenge.rw_stayopen_k27_stamps_letters_and_hosts.prog w K mg base "_law_answer" 6 ["plain", "word", "parts", "cares"] (spLA K (He.ga K "Kept")) := ⟨_, _, g__law_answer, ok_la F_l_answer T c_made c_stored, F_l_answer.kp, b_l_answer⟩
    have c_letter : Cal PySem.Challenge.rw_stayopen_k27_stamps_letters_and_hosts.prog w K mg base "_law_letter" 4 ["well", "keys"] spLT := ⟨_, _, g__law_letter, ok_lt F_l_letter c_draw c_one c_kept, F_l_letter.kp, b_l_letter⟩
    have c_stands : Cal PySem.Challenge.rw_stayopen_k27_stamps_letters_and_hosts.prog w K mg base "_law_stands" 8 ["host", "place", "plain", "keys"] (spST K (He.ga K "Kept") (He.ga K "Host")) := ⟨_, _, g__law_stands, ok_st F_l_stands T HF HM c_made, F_l_stands.kp, b_l_stands⟩
    have c_ma : Cal PySem.Challenge.rw_stayopen_k27_stamps_letters_and_hosts.prog w K mg base "_law_made_asking" 8 ["row"] (spMA K (He.ga K "Asking")) := ⟨_, _, g__law_made_asking, ok_ma F_l_made_asking AA M_Asking, F_l_made_asking.kp, b_l_made_asking⟩
    have c_hr : Cal PySem.Challenge.rw_stayopen_k27_stamps_letters_and_hosts.prog w K mg base "_law_host_right" 13 ["well"] spYes := ⟨_, _, g__law_host_right, ok_hr F_l_host_right T HF HA c_made c_draw c_one c_letter c_answer c_stands, F_l_host_right.kp, b_l_host_right⟩
    have c_ar : Cal PySem.Challenge.rw_stayopen_k27_stamps_letters_and_hosts.prog w K mg base "_law_askings_right" 13 ["well"] spYes := ⟨_, _, g__law_askings_right, ok_ar F_l_askings_right T AS c_draw c_one c_ma, F_l_askings_right.kp, b_l_askings_right⟩
    have c_pr : Cal PySem.Challenge.rw_stayopen_k27_stamps_letters_and_hosts.prog w K mg base "_law_papers_right" 13 ["well"] spYes := ⟨_, _, g__law_papers_right, ok_pr F_l_papers_right T HF M_Kept LE c_made c_kept, F_l_papers_right.kp, b_l_papers_right⟩
    have c_sr : CalG PySem.Challenge.rw_stayopen_k27_stamps_letters_and_hosts.prog w K mg base "_law_stamps_right" 13 ["well"] spYes := ⟨_, _, g__law_stamps_right, ok_sr F_l_stamps_right T hb HF GA c_made c_draw c_kept, F_l_stamps_right.kp, b_l_stamps_right⟩
    have c_rr : CalG PySem.Challenge.rw_stayopen_k27_stamps_letters_and_hosts.prog w K mg base "_law_refused_right" 13 ["well"] spYes := ⟨_, _, g__law_refused_right, ok_rr F_l_refused_right T hb HF EA c_one, F_l_refused_right.kp, b_l_refused_right⟩
    exact ok_law F_law T ⟨c_well, c_sr, c_pr, c_rr, c_ar, c_hr⟩
end K27
end

section
open PySem PySem.W PySem.Calls PyProof.Rows
set_option Elab.async false
set_option linter.all false
set_option maxRecDepth 100000
set_option maxHeartbeats 0
theorem PySem.Challenge.cw_stayopen_k27_stamps_letters_and_hosts_holds : PySem.Challenge.rw_stayopen_k27_stamps_letters_and_hosts.Holds := by
  w_on; o_law
  refine HandSHeadRun.head_any (r := OpenLaw.row PySem.Challenge.rw_stayopen_k27_stamps_letters_and_hosts) (q := view (OpenLaw.row PySem.Challenge.rw_stayopen_k27_stamps_letters_and_hosts).prog [39]) (H := K27.hk) (ob := K27.ob) (M := 20000) (loose := K27.nms) (d := HandSHeadRun.topDef (OpenLaw.row PySem.Challenge.rw_stayopen_k27_stamps_letters_and_hosts).prog 39) (kwd := []) K27.ob_eq
    (by kernel_rfl) (fun s => by kernel_rfl) K27.run (by kernel_rfl) (by kernel_rfl) (by kernel_rfl) (by rfl) (by first | assumption | decide +kernel) (by decide +kernel) ⟨rfl, rfl, rfl, rfl, rfl, by decide +kernel⟩ ?hw ?hc
  case hw => w_witness2
  case hc =>
    refine KZ.walkGE (l := PySem.Challenge.rw_stayopen_k27_stamps_letters_and_hosts) (n := 63) (k := 14) (x := "script") rfl (by decide) (by kernel_rfl) ⟨rfl, by decide, by decide⟩ (by decide +kernel) ?F
    intro w mg fa h Y G hmg0
    obtain ⟨K, KX, c⟩ := Y
    have hmg : mg ("law" : PySem.Str) = some (.ref fa) := by
      have e : (HandSHeadRun.topDef (OpenLaw.row PySem.Challenge.rw_stayopen_k27_stamps_letters_and_hosts).prog 39).name = ("law" : PySem.Str) := by kernel_rfl
      rw [← e]
      exact hmg0
    exact ⟨K, KX, K27.joined KX G hmg c⟩
end
