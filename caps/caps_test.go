package caps

import (
	"encoding/hex"
	"math"
	"regexp"
	"slices"
	"strconv"
	"strings"
	"testing"

	"clavier/api"
	"clavier/wire"
)

// The calls are as the chapter has them.
var (
	_ func(string) (string, bool)  = Look
	_ func() []string              = Names
	_ func(string) api.Seq         = Answer
	_ func(api.Seq) ([]Pair, bool) = Read
	_ struct{ Name, Value string } = Pair{}
)

// row is a name, and what it stands for, and both as they are told, in figures written out.
type row struct{ name, value, asked, told string }

// rows are all names, rising.
func rows() []row {
	return []row{
		{"Co", "256", "436F", "436F=323536"},
		{"RGB", "8", "524742", "524742=38"},
		{"TN", "clavier", "544E", "544E=636C6176696572"},
		{"colors", "256", "636F6C6F7273", "636F6C6F7273=323536"},
		{"kbs", "\x7f", "6B6273", "6B6273=7F"},
		{"kcub1", "\x1bOD", "6B63756231", "6B63756231=1B4F44"},
		{"kcud1", "\x1bOB", "6B63756431", "6B63756431=1B4F42"},
		{"kcuf1", "\x1bOC", "6B63756631", "6B63756631=1B4F43"},
		{"kcuu1", "\x1bOA", "6B63757531", "6B63757531=1B4F41"},
		{"kdch1", "\x1b[3~", "6B64636831", "6B64636831=1B5B337E"},
		{"kf1", "\x1bOP", "6B6631", "6B6631=1B4F50"},
		{"name", "clavier", "6E616D65", "6E616D65=636C6176696572"},
	}
}

// wantLook is what a name stands for, written out.
func wantLook(name string) (string, bool) {
	for _, r := range rows() {
		if r.name == name {
			return r.value, true
		}
	}
	return "", false
}

// wantReply is a reply, written out.
func wantReply(how int, data string) api.Seq {
	return api.Seq{Kind: api.DCS, Params: [][]int{{how}}, Inter: "+", Final: 'r', Data: data}
}

// wantAnswer is the reply to names, by the chapter's words.
func wantAnswer(data string) api.Seq {
	var told []string
	for _, figures := range strings.Split(data, ";") {
		name, err := hex.DecodeString(figures)
		value, ok := wantLook(string(name))
		if err != nil || !ok {
			return wantReply(0, "")
		}
		told = append(told, strings.ToUpper(hex.EncodeToString(name)+"="+hex.EncodeToString([]byte(value))))
	}
	if all := strings.Join(told, ";"); len(all) <= 4096 {
		return wantReply(1, all)
	}
	return wantReply(0, "")
}

// pairs is how the Data of a reply look that tells pairs.
var pairs = regexp.MustCompile(`^([0-9A-F]{2})*=([0-9A-F]{2})*(;([0-9A-F]{2})*=([0-9A-F]{2})*)*$`)

// wantRead is what a reply says, by the chapter's words.
func wantRead(s api.Seq) ([]Pair, bool) {
	one := len(s.Params) == 1 && len(s.Params[0]) == 1 && s.Params[0][0] == 1
	if s.Kind != api.DCS || s.Private != 0 || !one || s.Inter != "+" || s.Final != 'r' || !pairs.MatchString(s.Data) {
		return nil, false
	}
	var l []Pair
	for _, text := range strings.Split(s.Data, ";") {
		at := strings.IndexByte(text, '=')
		name, _ := hex.DecodeString(text[:at])
		value, _ := hex.DecodeString(text[at+1:])
		l = append(l, Pair{string(name), string(value)})
	}
	return l, true
}

func checkLook(t *testing.T, name string) {
	t.Helper()
	got, ok := Look(name)
	if want, wantOK := wantLook(name); got != want || ok != wantOK {
		t.Fatalf("Look(%.99q) = %q, %v, not %q, %v", name, got, ok, want, wantOK)
	}
}

// checkReply ends the test, if a reply isn't as it ought to be, or isn't one sequence that may be, of what may stand in it alone.
func checkReply(t *testing.T, data string, got, want api.Seq) {
	t.Helper()
	if !wire.Same(got, want) {
		t.Fatalf("Answer(%.99q) = %.99q, not %.99q", data, got.Data, want.Data)
	}
	if err := wire.May(got); err != api.OK {
		t.Fatalf("Answer(%.99q) = %+v may not be: %d", data, got, err)
	}
	if strings.Trim(got.Data, "0123456789ABCDEF=;") != "" {
		t.Fatalf("Answer(%.99q) = %q", data, got.Data)
	}
	b, _ := wire.Put(got)
	if back, n, err := wire.Take(b); err != api.OK || n != len(b) || !wire.Same(back, got) {
		t.Fatalf("%q is taken as %+v, %d, %d", b, back, n, err)
	}
}

// checkAnswer holds a reply against the chapter, and reads what it says.
func checkAnswer(t *testing.T, data string) {
	t.Helper()
	got := Answer(data)
	checkReply(t, data, got, wantAnswer(data))
	checkRead(t, got)
	if _, ok := Read(got); ok != (got.Data != "") {
		t.Fatalf("Read of Answer(%.99q) is %v", data, ok)
	}
}

func checkRead(t *testing.T, s api.Seq) {
	t.Helper()
	got, ok := Read(s)
	if want, wantOK := wantRead(s); !slices.Equal(got, want) || ok != wantOK {
		t.Fatalf("Read(%.199q, %+v) = %.199q, %v, not %.199q, %v", s.Data, s, got, ok, want, wantOK)
	}
}

// edits are a text with one byte more in each place, one less, and one changed.
func edits(text string) []string {
	var l []string
	for at := range len(text) + 1 {
		for c := range 256 {
			l = append(l, text[:at]+string([]byte{byte(c)})+text[at:])
			if at < len(text) {
				l = append(l, text[:at]+string([]byte{byte(c)})+text[at+1:])
			}
		}
		if at < len(text) {
			l = append(l, text[:at]+text[at+1:])
		}
	}
	return l
}

// strange are texts that are no names.
func strange() []string {
	return []string{
		"", " ", "\x00", "\x1b", "\x7f", "\xff", "\xc3", "\xc3\xa9", "é", "\U0010ffff", "x", "tn", "Tn", "NAME", "co", "rgb", "Colors", "KBS", "kf2", "kcuu", "kdch", "khome",
		"TN;Co", "TN=", "544E", "clavier", "256", "8", strings.Repeat("TN", 9999), strings.Repeat("\xff", 9999), strings.Repeat("kcuu1", 3),
	}
}

// P20.1: each name, and what it stands for.
func TestLookRows(t *testing.T) {
	for _, r := range rows() {
		if got, ok := Look(r.name); got != r.value || !ok {
			t.Errorf("Look(%q) = %q, %v", r.name, got, ok)
		}
	}
	for _, name := range strange() {
		if got, ok := Look(name); got != "" || ok {
			t.Errorf("Look(%.99q) = %q, %v", name, got, ok)
		}
	}
}

// P20.1: each name with one byte more, less, and changed; behind others, and ahead of them; no name but those stands for anything.
func TestLookEdits(t *testing.T) {
	for _, r := range rows() {
		for _, edit := range edits(r.name) {
			checkLook(t, edit)
		}
		for _, other := range append(strange(), "TN", "kbs", r.name, strings.ToUpper(r.name), strings.ToLower(r.name)) {
			checkLook(t, r.name+other)
			checkLook(t, other+r.name)
			checkLook(t, other)
		}
	}
	for a := range 256 {
		checkLook(t, string([]byte{byte(a)}))
		for b := range 256 {
			checkLook(t, string([]byte{byte(a), byte(b)}))
		}
	}
}

// P20.1: all names, in turn.
func TestNames(t *testing.T) {
	want := []string{"Co", "RGB", "TN", "colors", "kbs", "kcub1", "kcud1", "kcuf1", "kcuu1", "kdch1", "kf1", "name"}
	got := Names()
	if !slices.Equal(got, want) {
		t.Fatalf("%q", got)
	}
	if !slices.IsSorted(got) {
		t.Errorf("%q are not rising", got)
	}
	for i, r := range rows() {
		if got[i] != r.name {
			t.Errorf("%q is not %q", got[i], r.name)
		}
		if _, ok := Look(got[i]); !ok {
			t.Errorf("%q is not known", got[i])
		}
	}
	// What was handed out may be changed.
	slices.Reverse(got)
	clear(got[:cap(got)])
	got = append(got[:0], "x", "y")
	if again := Names(); !slices.Equal(again, want) {
		t.Errorf("%q behind a change to %q", again, got)
	}
}

// P20.2: replies, written out.
func TestAnswerRows(t *testing.T) {
	for _, r := range []struct {
		data string
		how  int
		told string
	}{
		{"544E", 1, "544E=636C6176696572"},
		{"544e", 1, "544E=636C6176696572"},
		{"6e616d65", 1, "6E616D65=636C6176696572"},
		{"6B627 3", 0, ""},
		{"6b6273;6B6273", 1, "6B6273=7F;6B6273=7F"},
		{"544E;436F", 1, "544E=636C6176696572;436F=323536"},
		{"436F;544E", 1, "436F=323536;544E=636C6176696572"},
		{"436f;636F6c6F7273;524742", 1, "436F=323536;636F6C6F7273=323536;524742=38"},
		{"", 0, ""},
		{";", 0, ""},
		{";;", 0, ""},
		{"544E;", 0, ""},
		{";544E", 0, ""},
		{"544E;;436F", 0, ""},
		{"544", 0, ""},
		{"544E4", 0, ""},
		{"54 4E", 0, ""},
		{"544E ", 0, ""},
		{"TN", 0, ""},
		{"544G", 0, ""},
		{"544E=636C6176696572", 0, ""},
		{"544E,436F", 0, ""},
		{"544E:436F", 0, ""},
		{"544E436F", 0, ""},
		{"746E", 0, ""},
		{"544E;00", 0, ""},
		{"544E;6B663", 0, ""},
		{"544E;6B6632;436F", 0, ""},
		{"6B6632;544E", 0, ""},
		{"\xff", 0, ""},
		{"544E\x1b", 0, ""},
	} {
		checkReply(t, r.data, Answer(r.data), wantReply(r.how, r.told))
		checkAnswer(t, r.data)
	}
	for data, want := range map[string]string{"544E": "P1+r544E=636C6176696572\x1b\\", "": "P0+r\x1b\\", "6b6273": "P1+r6B6273=7F\x1b\\"} {
		if b, err := wire.Put(Answer(data)); err != api.OK || string(b) != "\x1b"+want {
			t.Errorf("Answer(%q) is %q, %d", data, b, err)
		}
	}
}

// spellings are figures in large letters, in small ones, and mixed in each way.
func spellings(figures string) []string {
	l := []string{""}
	for _, c := range figures {
		var longer []string
		for _, text := range l {
			longer = append(longer, text+string(c))
			if small := strings.ToLower(string(c)); small != string(c) {
				longer = append(longer, text+small)
			}
		}
		l = longer
	}
	return l
}

// P20.2, P20.4: each name alone, pairs of them in both turns, and each name spelt in each way: answered alike.
func TestAnswerNames(t *testing.T) {
	for _, r := range rows() {
		for _, asked := range spellings(r.asked) {
			checkReply(t, asked, Answer(asked), wantReply(1, r.told))
			for _, other := range rows() {
				for _, more := range []string{other.asked, strings.ToLower(other.asked)} {
					checkReply(t, asked, Answer(asked+";"+more), wantReply(1, r.told+";"+other.told))
					checkReply(t, asked, Answer(more+";"+asked), wantReply(1, other.told+";"+r.told))
				}
			}
		}
	}
}

// all are all names, as they are asked, and as they are told.
func all() (asked, told string) {
	var a, b []string
	for _, r := range rows() {
		a, b = append(a, r.asked), append(b, r.told)
	}
	return strings.Join(a, ";"), strings.Join(b, ";")
}

// P20.2, P20.4: all names at once, in any turn.
func TestAnswerAll(t *testing.T) {
	asked, told := all()
	for _, data := range []string{asked, strings.ToLower(asked)} {
		checkReply(t, data, Answer(data), wantReply(1, told))
		l := strings.Split(data, ";")
		slices.Reverse(l)
		checkAnswer(t, strings.Join(l, ";"))
		for i := range l {
			checkAnswer(t, strings.Join(append(slices.Clone(l[i:]), l[:i]...), ";"))
			checkAnswer(t, strings.Join(l[:i], ";"))
			checkAnswer(t, strings.Join(l[i:], ";"))
		}
		checkAnswer(t, data+";"+data)
	}
}

// P20.2: what is asked with one byte more, less, and changed.
func TestAnswerEdits(t *testing.T) {
	asked, _ := all()
	l := []string{asked, "544E;436F", "6b6273;6B6631;6e616d65", "524742", "544E;746E"}
	for _, r := range rows() {
		l = append(l, r.asked, strings.ToLower(r.asked))
	}
	known := 0
	for _, data := range l {
		for _, edit := range edits(data) {
			checkAnswer(t, edit)
			if Answer(edit).Data != "" {
				known++
			}
		}
	}
	if known == 0 {
		t.Error("no edit is known")
	}
}

// P20.2: one name that isn't known, among known ones, in each place.
func TestAnswerOneUnknown(t *testing.T) {
	asked, _ := all()
	known := strings.Split(asked, ";")
	var l []string
	for _, name := range strange() {
		l = append(l, hex.EncodeToString([]byte(name)), name)
	}
	for _, unknown := range append(l, "5", "544", "6G", "0x54", "+54", "54_4E", " ", "é", "544e\n", "４Ｅ", "00544E", "544E00") {
		for at := range len(known) + 1 {
			data := strings.Join(slices.Insert(slices.Clone(known), at, unknown), ";")
			if !strings.Contains(unknown, ";") && unknown != "544E" {
				checkReply(t, data, Answer(data), wantReply(0, ""))
			}
			checkAnswer(t, data)
		}
	}
	if data := "544E;" + asked; Answer(data).Data == "" {
		t.Error("a name twice isn't answered")
	}
}

// P20.2: one name many times: Data have 4096 bytes at most.
func TestAnswerManyTimes(t *testing.T) {
	for _, r := range rows() {
		data := r.asked
		for count := 1; count < 500; count++ {
			want := wantReply(0, "")
			if size := count*(len(r.told)+1) - 1; size <= 4096 {
				want = wantReply(1, strings.Repeat(r.told+";", count)[:size])
			}
			checkReply(t, data, Answer(data), want)
			data += ";" + r.asked
		}
	}
}

// filled is what is asked, of all names and more, so that Data would have that size, if there is any: a pair, and what stands behind it, has an even size.
func filled(size int) (string, bool) {
	data, told := all()
	left := size - len(told)
	add := func(names ...string) {
		for _, name := range names {
			at := slices.IndexFunc(rows(), func(r row) bool { return r.name == name })
			data += ";" + rows()[at].asked
			left -= len(rows()[at].told) + 1
		}
	}
	switch left % 10 {
	case 2:
		add("Co")
	case 4:
		add("kf1")
	case 6:
		add("kf1", "Co")
	case 8:
		add("kf1", "kf1")
	}
	for left >= 10 {
		add("RGB")
	}
	return data, left == 0
}

// P20.2: so many names that Data would have sizes around 4096 bytes, and far more.
func TestAnswerSizes(t *testing.T) {
	found := map[int]bool{}
	for size := 4001; size < 4201; size++ {
		data, ok := filled(size)
		if !ok {
			continue
		}
		found[size] = true
		got := Answer(data)
		if size <= 4096 && len(got.Data) != size || size > 4096 && got.Data != "" {
			t.Fatalf("of %d bytes %d are told", size, len(got.Data))
		}
		checkAnswer(t, data)
		checkAnswer(t, strings.ToLower(data))
		checkAnswer(t, data+";")
		checkAnswer(t, ";"+data)
		checkAnswer(t, data+";6B6632")
	}
	if !found[4095] || !found[4097] || found[4096] {
		t.Errorf("4095: %v, 4096: %v, 4097: %v", found[4095], found[4096], found[4097])
	}
	asked, _ := all()
	for _, count := range []int{10, 100, 10000} {
		checkAnswer(t, strings.Repeat(asked+";", count)+asked)
		checkAnswer(t, strings.Repeat(asked+";", count))
		checkAnswer(t, strings.Repeat(";", count))
		checkAnswer(t, strings.Repeat("5", count))
		checkAnswer(t, strings.Repeat("544E", count))
		checkAnswer(t, strings.Repeat("\xff", count))
	}
}

// P20.2: each pair that is told has an odd size, so that with what stands between them no Data has just 4096 bytes.
func TestSizesAreOdd(t *testing.T) {
	for _, r := range rows() {
		if len(r.told)%2 == 0 {
			t.Errorf("%q has an even size", r.told)
		}
	}
}

// texts are of all kinds: empty, names, bytes that are no code points, and those that stand between pairs.
func texts() []string {
	l := append(strange(), "=", ";", "a=b", "a;b", "\x00\x01", "\x1b\\", "\xf0\x9f\x98\x80")
	for c := range 256 {
		l = append(l, string([]byte{byte(c)}))
	}
	for _, r := range rows() {
		l = append(l, r.name, r.value)
	}
	return l
}

// figures are pairs as they are told, written out.
func figures(l ...Pair) string {
	var told []string
	for _, p := range l {
		told = append(told, strings.ToUpper(hex.EncodeToString([]byte(p.Name))+"="+hex.EncodeToString([]byte(p.Value))))
	}
	return strings.Join(told, ";")
}

// checkPairs ends the test, if pairs that are told aren't read again.
func checkPairs(t *testing.T, l ...Pair) {
	t.Helper()
	s := wantReply(1, figures(l...))
	got, ok := Read(s)
	if !ok || !slices.Equal(got, l) {
		t.Fatalf("%.199q are read as %.199q, %v", l, got, ok)
	}
	checkRead(t, s)
}

// P20.3: replies that are read, written out.
func TestReadRows(t *testing.T) {
	for _, r := range []struct {
		data string
		want []Pair
	}{
		{"544E=636C6176696572", []Pair{{"TN", "clavier"}}},
		{"=", []Pair{{"", ""}}},
		{"41=", []Pair{{"A", ""}}},
		{"=41", []Pair{{"", "A"}}},
		{"=;=", []Pair{{"", ""}, {"", ""}}},
		{"00=FF", []Pair{{"\x00", "\xff"}}},
		{"3D=3B;3B=3D", []Pair{{"=", ";"}, {";", "="}}},
		{"6B6273=7F;6B6273=08;6B6273=7F", []Pair{{"kbs", "\x7f"}, {"kbs", "\b"}, {"kbs", "\x7f"}}},
		{"", nil}, {";", nil}, {"41", nil}, {"41;", nil}, {"41=42;", nil}, {";41=42", nil}, {"41=42;;43=44", nil}, {"41=42;43", nil}, {"43;41=42", nil},
		{"41==42", nil}, {"41=42=43", nil}, {"==", nil}, {"=;", nil}, {"4=42", nil}, {"41=4", nil}, {"411=42", nil}, {"4g=42", nil}, {"41=4G", nil},
		{"4a=42", nil}, {"4A=4b", nil}, {"41=42;4a=42", nil}, {"4A=4B;4C=4d", nil}, {" 41=42", nil}, {"41=42 ", nil}, {"41 =42", nil}, {"41= 42", nil}, {"41:42", nil},
		{"41=42\x00", nil}, {"\xff", nil}, {"é=41", nil}, {"41=42,43=44", nil}, {"TN=clavier", nil},
	} {
		s := wantReply(1, r.data)
		if got, ok := Read(s); ok != (r.want != nil) || !slices.Equal(got, r.want) {
			t.Errorf("Read of %q is %q, %v", r.data, got, ok)
		}
		checkRead(t, s)
		checkRead(t, wantReply(0, r.data))
	}
}

// P20.3: pairs of any two texts, alone and one behind the other.
func TestReadAnyPairs(t *testing.T) {
	l := texts()
	for i, name := range l {
		for j, value := range l {
			if len(name)+len(value) > 30000 {
				continue
			}
			p := Pair{name, value}
			checkPairs(t, p)
			if i%5 == 0 {
				checkPairs(t, p, Pair{value, name}, Pair{l[(i+j)%len(l)], ""}, p)
			}
		}
	}
	var many []Pair
	for i := range 3000 {
		many = append(many, Pair{l[i%40], l[i*7%300]})
		if i%100 == 0 {
			checkPairs(t, many...)
		}
	}
}

// P20.3: Data of all kinds, with one byte more, less, and changed, and cut anywhere.
func TestReadEdits(t *testing.T) {
	_, told := all()
	for _, data := range []string{told, "=", "41=42", "4A=;=4B", "6B6273=7F;6B6273=08"} {
		for _, edit := range edits(data) {
			checkRead(t, wantReply(1, edit))
		}
		for at := range len(data) + 1 {
			checkRead(t, wantReply(1, data[:at]))
			checkRead(t, wantReply(1, data[at:]))
		}
	}
}

// P20.3: all short rows of the bytes that matter.
func TestReadShort(t *testing.T) {
	l := []string{""}
	read := 0
	for range 6 {
		var longer []string
		for _, data := range l {
			for _, c := range "4Aa=;" {
				longer = append(longer, data+string(c))
			}
		}
		for _, data := range longer {
			s := wantReply(1, data)
			checkRead(t, s)
			if _, ok := Read(s); ok {
				read++
			}
		}
		l = longer
	}
	if read == 0 {
		t.Error("none is read")
	}
}

// P20.3: other kinds, Privates, Inters, Finals and parameters are not read.
func TestReadOthers(t *testing.T) {
	good := wantReply(1, "544E=636C6176696572")
	if _, ok := Read(good); !ok {
		t.Fatal("what is told isn't read")
	}
	other := func(change func(s *api.Seq)) {
		s := good
		change(&s)
		checkRead(t, s)
		if l, ok := Read(s); ok || l != nil {
			t.Errorf("%+v is read as %q", s, l)
		}
	}
	for _, kind := range []int{api.CSI, api.SS3, api.OSC, api.ESC, 0, -1, 6, api.DCS + 1<<32, math.MinInt, math.MaxInt} {
		other(func(s *api.Seq) { s.Kind = kind })
	}
	for c := 1; c < 256; c++ {
		other(func(s *api.Seq) { s.Private = byte(c) })
		other(func(s *api.Seq) { s.Final = 'r' + byte(c) })
		other(func(s *api.Seq) { s.Inter = string([]byte{'+' + byte(c)}) })
		other(func(s *api.Seq) { s.Inter = "+" + string([]byte{byte(c)}) })
	}
	for _, inter := range []string{"", "$", "++", " +", "+ ", "+$", "\x00+"} {
		other(func(s *api.Seq) { s.Inter = inter })
	}
	for _, params := range [][][]int{
		nil, {}, {nil}, {{}}, {{0}}, {{2}}, {{-1}}, {{-2}}, {{10}}, {{11}}, {{256 + 1}}, {{1 + 1<<32}}, {{math.MinInt}}, {{math.MaxInt}},
		{{1, 0}}, {{1, 1}}, {{1, -1}}, {{-1, 1}}, {{1}, {0}}, {{1}, {1}}, {{1}, {-1}}, {{1}, nil}, {{1}, {}}, {nil, {1}}, {{-1}, {1}}, {{0}, {1}},
	} {
		other(func(s *api.Seq) { s.Params = params })
	}
	other(func(s *api.Seq) { *s = api.Seq{} })
	other(func(s *api.Seq) { s.Data = "" })
}

// P20.3, P20.4: what Answer tells is read, as the names and what they stand for.
func TestAnswersAreRead(t *testing.T) {
	asked, _ := all()
	var want []Pair
	for _, r := range rows() {
		want = append(want, Pair{r.name, r.value})
		if got, ok := Read(Answer(r.asked)); !ok || !slices.Equal(got, []Pair{{r.name, r.value}}) {
			t.Errorf("%q is read as %q, %v", r.name, got, ok)
		}
	}
	if got, ok := Read(Answer(asked)); !ok || !slices.Equal(got, want) {
		t.Errorf("all are read as %q, %v", got, ok)
	}
	for _, name := range Names() {
		value, _ := Look(name)
		got, ok := Read(Answer(hex.EncodeToString([]byte(name))))
		if !ok || len(got) != 1 || got[0] != (Pair{name, value}) {
			t.Errorf("%q is read as %q, %v", name, got, ok)
		}
	}
	if got, ok := Read(Answer("")); ok || got != nil {
		t.Errorf("a refusal is read as %q", got)
	}
}

// P20.4: whatever is asked, in runs of all kinds.
func TestWhateverIsAsked(t *testing.T) {
	seed := uint32(20)
	next := func(n int) int {
		seed = seed*1664525 + 1013904223
		return int(seed>>8) % n
	}
	answered := 0
	for range 30000 {
		var data []string
		for range next(9) {
			name := rows()[next(12)].asked
			switch next(12) {
			case 0:
				name = strings.ToLower(name)
			case 1:
				at := next(len(name))
				name = name[:at] + strings.ToLower(name[at:])
			case 2:
				if next(3) == 0 {
					name = texts()[next(200)]
				}
			case 3:
				if next(3) == 0 {
					name = name[:next(len(name)+1)]
				}
			}
			data = append(data, name)
		}
		text := strings.Join(data, ";")
		checkAnswer(t, text)
		if Answer(text).Data != "" {
			answered++
			checkReply(t, text, Answer(strings.ToUpper(text)), Answer(strings.ToLower(text)))
		}
	}
	if answered < 5000 {
		t.Errorf("%d are answered", answered)
	}
}

// The chapter's example.
func TestExample(t *testing.T) {
	if got := Answer("544E").Data; got != "544E=636C6176696572" {
		t.Error(got)
	}
}

// R3: what is handed in stays as it is; what is told is the caller's own, and the same is told twice.
func TestWhatIsHandedInStays(t *testing.T) {
	asked, told := all()
	s := wantReply(1, told)
	s.Params = append(make([][]int, 0, 9), []int{1})
	first, ok := Read(s)
	want := slices.Clone(first)
	if !ok || !wire.Same(s, wantReply(1, told)) {
		t.Fatalf("%v, %+v", ok, s)
	}
	clear(first[:cap(first)])
	if again, _ := Read(s); !slices.Equal(again, want) {
		t.Errorf("%q is read as %q the second time", want, again)
	}
	for _, data := range []string{asked, "544E", "", "x"} {
		one := Answer(data)
		for _, p := range one.Params {
			clear(p[:cap(p)])
		}
		clear(one.Params[:cap(one.Params)])
		checkAnswer(t, data)
	}
}

// R4: nothing is kept from call to call: in any order of calls each is told what it is told alone.
func TestNothingIsKept(t *testing.T) {
	asked, _ := all()
	for i := range 500 {
		r := rows()[i*5%12]
		checkAnswer(t, r.asked)
		checkLook(t, r.name)
		checkAnswer(t, asked[:i%len(asked)])
		checkRead(t, wantReply(1, r.told))
		checkLook(t, strange()[i%len(strange())])
		if len(Names()) != 12 {
			t.Fatal(Names())
		}
	}
}

// P1: every call ends, and none panics, at all arguments; and each is as the chapter says.
func TestNoCallPanics(t *testing.T) {
	for _, text := range append(texts(), strings.Repeat("544E;", 1<<18), strings.Repeat("=", 1<<20), strings.Repeat("4a", 1<<20), strings.Repeat("41=42;", 1<<16)+"=", strings.Repeat(";", 1<<20)) {
		checkLook(t, text)
		checkAnswer(t, text)
		for _, kind := range []int{-1, 0, 1, 2, 3, 4, 5, 6} {
			for _, params := range [][][]int{nil, {nil}, {{1}}, {{1}, nil}, make([][]int, 100)} {
				checkRead(t, api.Seq{Kind: kind, Params: params, Inter: "+", Final: 'r', Data: text})
				checkRead(t, api.Seq{Kind: kind, Private: '?', Params: params, Inter: text, Final: byte(kind), Data: "41=" + strconv.Itoa(kind)})
			}
		}
	}
}
