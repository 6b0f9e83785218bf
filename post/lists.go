package post

import (
	"firkin/api"
	"firkin/ef"
)

// listBytes tells the lists' rows as bytes, one behind the other. No list may be empty: a term that no record has is none of the log's.
func listBytes(bound int, lists [][]int) ([]byte, api.Errno) {
	var rows []byte
	for _, list := range lists {
		row, e := ef.Write(bound, list...)
		switch {
		case e != api.OK:
			return nil, e
		case len(list) == 0:
			return nil, api.ErrArg
		}
		rows = append(rows, row...)
	}
	return rows, api.OK
}

// readLists takes n lists, behind which no bytes may be left.
func readLists(bound, n int, b []byte) ([][]int, api.Errno) {
	var lists [][]int
	for range n {
		list, long, e := ef.Read(bound, b)
		switch {
		case e != api.OK:
			return nil, e
		case list.Len() == 0:
			return nil, api.ErrForm
		}
		lists = append(lists, list.All())
		b = b[long:]
	}
	if len(b) > 0 {
		return nil, api.ErrForm
	}
	return lists, api.OK
}
