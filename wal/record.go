package wal

import "gauze/api"

// The disk begins with the record, which has the room behind it for what a transaction puts; the blocks that callers see come behind the log.
const (
	recordAt = 0
	roomAt   = 1
	firstAt  = api.LogSize
)

// note makes sure of what is put, beside the places where it belongs. It is the record that makes the transaction sure as a whole, so all it speaks of must be sure ahead of it.
func (l *Log) note(puts []put) bool {
	for i, p := range puts {
		if !l.disk.Write(roomAt+i, p.data) {
			return false
		}
	}
	return l.disk.Flush() && l.setRecord(puts)
}

// settle brings what the record tells to the places where it belongs; the record goes when all of it is sure there. It may be cut off and begun anew, as long as the record stands.
func (l *Log) settle(puts []put) bool {
	for _, p := range puts {
		if !l.disk.Write(firstAt+p.at, p.data) {
			return false
		}
	}
	return l.disk.Flush() && l.setRecord(nil)
}

// redo settles a transaction that was noted and not settled. Flush comes first, since a Commit that failed may have left a record that a crash would take away, or one to come back that was cleared, when the room has something else.
func (l *Log) redo() bool {
	if !l.disk.Flush() {
		return false
	}
	puts, ok := l.noted()
	if !ok || len(puts) == 0 {
		return ok
	}
	return l.settle(puts)
}

// noted is what the record tells; false: the disk is dead.
func (l *Log) noted() ([]put, bool) {
	text, ok := l.disk.Read(recordAt)
	if !ok {
		return nil, false
	}
	var puts []put
	for i, at := range l.recorded(text) {
		data, ok := l.disk.Read(roomAt + i)
		if !ok {
			return nil, false
		}
		puts = append(puts, put{at: at, data: data})
	}
	return puts, true
}

// setRecord makes sure of the record. It is one block, so that a crash leaves all of it, or what was there.
func (l *Log) setRecord(puts []put) bool {
	return l.disk.Write(recordAt, record(puts)) && l.disk.Flush()
}

// record is how many blocks were put, and the number of each in two bytes (no disk has more). That of no blocks is what a new disk has.
func record(puts []put) string {
	text := []byte{byte(len(puts))}
	for _, p := range puts {
		text = append(text, byte(p.at>>8), byte(p.at))
	}
	return string(text)
}

// recorded are the numbers that a record tells. What no Commit has written tells none: it must not lead astray.
func (l *Log) recorded(text string) []int {
	n := int(text[0])
	if n > api.MaxPuts {
		return nil
	}
	var list []int
	for i := range n {
		at := int(text[1+2*i])<<8 | int(text[2+2*i])
		if !l.has(at) {
			return nil
		}
		list = append(list, at)
	}
	return list
}
